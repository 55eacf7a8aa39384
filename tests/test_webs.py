"""[102]: places on webs."""

import itertools
import random
import time

from tests.helping import ODD, Case, changes, kinds, plain_courses, plain_end
from tests.test_nearness import NO_MANY, NO_ROUNDS, some_course, some_row
from waitless.choosing import least
from waitless.errors import BadCorner, BadMany, BadPlaces, BadRounds, BadTies, NotEnough, TooMany
from waitless.making import on_web
from waitless.refuting import table
from waitless.running import Runner
from waitless.tables import corners_of, is_table
from waitless.tasks import may_answer
from waitless.webs import is_web_paper, web_answer, web_paper, web_rounds

NO_PLACES = [None, True, False, "3", 1.0, (1,), [1], {}, 0, 61, -1, 10 ** 30]
NO_TIES = [None, True, 0, [], [(0, 1)], (0, 1), ((1, 0),), ((0, 0),), ((0, 3),), ((0, 1), (0, 1)), ((1, 2), (0, 1)), ((-1, 1),),
           ((True, 2),), ((0, True),), ((0, 1, 2),), (("0", 1),), ((0, 1.0),), {(0, 1): 1}, ([0, 1],), (None,), ((0, None),)]


def row_of(places):
    return tuple((at, at + 1) for at in range(places - 1))


def ring_of(places):
    return tuple(sorted(row_of(places) + ((0, places - 1),)))


def full(places):
    return tuple(itertools.combinations(range(places), 2))


def some_tree(chance, places):
    return tuple(sorted((chance.randrange(at), at) for at in range(1, places)))


def some_web(chance, places):
    every = list(itertools.combinations(range(places), 2))
    return tuple(sorted(chance.sample(every, chance.randint(0, len(every)))))


def plain_far(places, ties):
    """How many ties lead from place to place, at least; None for none."""
    far = {(one, other): 0 if one == other else 1 if (min(one, other), max(one, other)) in ties else None
           for one in range(places) for other in range(places)}
    for between in range(places):
        for one in range(places):
            for other in range(places):
                if far[one, between] is not None and far[between, other] is not None:
                    there = far[one, between] + far[between, other]
                    if far[one, other] is None or there < far[one, other]:
                        far[one, other] = there
    return far


def plain_web_rounds(many, places, ties):
    if many == 1:
        return 0
    far = plain_far(places, ties)
    if None in far.values() or (many > 2 and len(ties) != places - 1):
        return None
    count = 0
    while (3 if many == 2 else 2) ** count < max(far.values()):
        count += 1
    return count


def is_let(ties, row, told):
    """Whether told is an answer to row."""
    def close(values):
        return len(set(values)) == 1 or tuple(sorted(set(values))) in ties
    inputs, places = [value for _, value in row], [place for _, place in told]
    return close(places) and (not close(inputs) or set(places) <= set(inputs))


class Webs(Case):
    def test_by_hand(self):
        triangle = ((0, 1), (0, 2), (1, 2))
        self.assertEqual([self.same(web_rounds, "many places ties", many, 3, triangle) for many in (1, 2, 3, 4)],
                         [0, 0, None, None])
        self.assertEqual([(web_rounds(2, places, row_of(places)), web_rounds(3, places, row_of(places))) for places in (5, 9)],
                         [(2, 2), (2, 3)])
        self.assertEqual(self.same(web_paper, "many places ties", 3, 3, triangle)[0], "ring")
        self.assertEqual(sorted(web_paper(4, 3, triangle)[1]), [0, 1, 2])
        self.assertEqual(web_paper(2, 2, ()), ("apart", 0, 1))
        self.assertIsNone(web_paper(2, 3, triangle))
        self.assertEqual(self.same(web_answer, "many places ties rounds corner", 2, 3, triangle, 0, (1, 2)), 2)
        self.assertEqual(web_answer(3, 3, row_of(3), 1, (1, ((0, 0), (1, 2)))), 1)
        self.assertIs(self.same(is_web_paper, "many places ties thing", 3, 3, triangle, ("ring", (2, 0, 1))), True)

    def test_all_webs_of_four_places(self):
        for size in range(7):
            for ties in itertools.combinations(full(4), size):
                for many in (1, 2, 3, 4):
                    self.check_web(many, 4, ties)

    def check_web(self, many, places, ties):
        least = web_rounds(many, places, ties)
        self.assertEqual(least, plain_web_rounds(many, places, ties))
        paper = web_paper(many, places, ties)
        self.assertEqual(paper is None, least is not None)
        if paper is not None:
            self.assertTrue(self.is_plain_paper(many, places, ties, paper))
            self.assertIs(is_web_paper(many, places, ties, paper), True)

    def is_plain_paper(self, many, places, ties, paper):
        if paper[0] == "apart":
            return many > 1 and plain_far(places, ties)[paper[1], paper[2]] is None
        row = paper[1]
        around = zip(row, row[1:] + row[:1])
        return many > 2 and len(row) > 2 and len(set(row)) == len(row) and all(tuple(sorted(tie)) in ties for tie in around)

    def test_webs_by_chance(self):
        chance = random.Random(1021)
        for _ in range(60):
            places = chance.randint(1, 14)
            for ties in (some_tree(chance, places), some_web(chance, places), some_web(chance, places)[:places]):
                for many in (1, 2, 3, 4):
                    self.check_web(many, places, ties)

    def test_what_walks_tell_of_two_hands(self):
        chance = random.Random(1025)
        for places in range(1, 8):
            for ties in (row_of(places), some_tree(chance, places), some_web(chance, places), some_web(chance, places)[:places]):
                self.assertEqual(least(on_web(2, places, ties)), web_rounds(2, places, ties))

    def test_tables_of_small_tasks(self):
        for places, ties in ((1, ()), (2, ((0, 1),)), (2, ()), (3, row_of(3)), (3, ring_of(3)), (3, ((0, 1),))):
            for many in (1, 2, 3):
                for rounds in (0, 1):
                    try:
                        found = table(on_web(many, places, ties), rounds)
                    except TooMany:
                        continue
                    least = web_rounds(many, places, ties)
                    self.assertEqual(found is not None, least is not None and least <= rounds)

    def test_answers_make_tables(self):
        chance = random.Random(1022)
        webs = [(1, ()), (2, ((0, 1),)), (4, row_of(4)), (5, ring_of(5)), (4, full(4)), (9, row_of(9)), (7, ring_of(7))]
        webs += [(places, some_tree(chance, places)) for places in (4, 5, 6, 7)]
        count = 0
        for places, ties in webs:
            for many in (1, 2, 3, 4):
                for rounds in range(4):
                    least = web_rounds(many, places, ties)
                    try:
                        task = on_web(many, places, ties)
                        corners = corners_of(task, rounds)
                    except TooMany:
                        continue
                    if least is None or least > rounds:
                        self.told(NotEnough, web_answer, many, places, ties, rounds, corners[0])
                        continue
                    told = {corner: web_answer(many, places, ties, rounds, corner) for corner in corners}
                    self.assertIs(is_table(task, rounds, told), True)
                    count += 1
                    self.check_cells(chance, task, rounds, told)
        self.assertGreater(count, 30)

    def check_cells(self, chance, task, rounds, told):
        if rounds == 0:
            return
        for _ in range(5):
            row = chance.choice(task.inputs())
            runner = Runner(task, rounds, told, row)
            for _ in range(chance.randint(1, 80)):
                runner.step(chance.choice([hand for hand, _ in row]))
                if runner.answers():
                    self.assertTrue(may_answer(task, runner.taking_part(), tuple(runner.answers().items())))

    def test_answers_on_larger_webs(self):
        chance = random.Random(1023)
        for _ in range(150):
            many, places = chance.randint(1, 4), chance.randint(2, 30)
            ties = some_tree(chance, places)
            if many < 3 and chance.random() < 0.7:
                ties = tuple(sorted(set(ties) | set(some_web(chance, places)[:6])))
            least = web_rounds(many, places, ties)
            rounds = chance.randint(least, max(least, 4))
            if rounds > 4 and many == 4:
                continue
            row = some_row(chance, many, 0, places - 1)
            if chance.random() < 0.3:
                tie = chance.choice(ties)
                row = tuple((hand, chance.choice(tie)) for hand, _ in row)
            ends = plain_end(row, some_course(chance, tuple(hand for hand, _ in row), rounds))
            told = tuple((hand, web_answer(many, places, ties, rounds, (hand, ends[hand]))) for hand in ends)
            self.assertTrue(is_let(ties, row, told), (many, places, ties, row, told))

    def test_all_courses_on_a_tree(self):
        ties = ((0, 2), (1, 2), (2, 3), (3, 4), (3, 5))
        for values in itertools.product((0, 1, 4, 5, 2), repeat=3):
            row = tuple(enumerate(values))
            for course in plain_courses((0, 1, 2), 2)[::3]:
                ends = plain_end(row, course)
                told = tuple((hand, web_answer(3, 6, ties, 2, (hand, ends[hand]))) for hand in ends)
                self.assertTrue(is_let(ties, row, told))

    def test_papers_are_judged(self):
        webs = [(3, 4, ((0, 1), (0, 2), (1, 2))), (3, 6, ((0, 1), (0, 3), (1, 2), (2, 3), (4, 5))), (2, 4, ((0, 1), (2, 3))),
                (4, 4, full(4)), (2, 3, ring_of(3)), (1, 3, ()), (3, 3, row_of(3))]
        for many, places, ties in webs:
            right = [("apart", one, other) for one in range(places) for other in range(places)
                     if many > 1 and plain_far(places, ties)[one, other] is None]
            for size in range(3, places + 1):
                for row in itertools.permutations(range(places), size):
                    if self.is_plain_paper(many, places, ties, ("ring", row)):
                        right.append(("ring", row))
            let = {kinds(thing) for thing in right}
            for thing in right + ODD:
                found = is_web_paper(many, places, ties, thing)
                self.assertIs(found, any(thing is one for one in right))
            for thing in right[:30]:
                for other in changes(thing):
                    self.assertIs(is_web_paper(many, places, ties, other), kinds(other) in let, other)
            for one, other in itertools.product(range(-1, places + 1), repeat=2):
                thing = ("apart", one, other)
                self.assertIs(is_web_paper(many, places, ties, thing), kinds(thing) in let)
            for row in itertools.product(range(places), repeat=3):
                self.assertIs(is_web_paper(many, places, ties, ("ring", row)), kinds(("ring", row)) in let)
                self.assertIs(is_web_paper(many, places, ties, ("ring", list(row))), False)

    def test_wrong_parameters(self):
        ties = ((0, 1), (1, 2))
        for called in (web_rounds, web_paper):
            self.wrong(called, [2, 3, ties], (BadMany, NO_MANY), (BadPlaces, NO_PLACES), (BadTies, NO_TIES))
        self.wrong(is_web_paper, [2, 3, ties, None], (BadMany, NO_MANY), (BadPlaces, NO_PLACES), (BadTies, NO_TIES), (BadTies, []))
        no_corners = [None, True, 0, (), (0,), [0, 1], (0, 3), (2, 1), (True, 1), (0, True), (0, -1), (0, ((0, 1),)), (0, 1, 1),
                      (0, 10 ** 9), (0, "1")]
        self.wrong(web_answer, [2, 3, ties, 1, (0, ((0, 1),))], (BadMany, NO_MANY), (BadPlaces, NO_PLACES), (BadTies, NO_TIES),
                   (BadRounds, NO_ROUNDS), (BadCorner, no_corners[:-5] + [(0, ((0, 3),)), (0, ((0, 1), (1, 3))), (2, ((2, 1),)), (0, 1),
                                                                          (0, ((0, 1), (2, 1)))]))
        # Too few rounds come ahead of the corner.
        for corner in no_corners + [(0, 1)]:
            self.told(NotEnough, web_answer, 2, 3, ties, 0, corner)
            self.told(NotEnough, web_answer, 2, 3, ((0, 1),), 6, corner)
            self.told(NotEnough, web_answer, 3, 3, ring_of(3), 6, corner)
        for corner in no_corners:
            self.told(BadCorner, web_answer, 2, 3, ring_of(3), 0, corner)
        self.assertEqual(web_answer(1, 3, (), 0, (0, 2)), 2)
        self.assertEqual(web_rounds(2, 60, row_of(60)), 4)

    def test_sixty_places(self):
        begun = time.monotonic()
        chance = random.Random(1024)
        self.assertEqual((web_rounds(3, 60, row_of(60)), web_rounds(2, 60, ring_of(60)), web_rounds(3, 60, ring_of(60))), (6, 4, None))
        self.assertEqual(len(web_paper(3, 60, ring_of(60))[1]), 60)
        self.assertEqual(web_rounds(2, 60, full(60)), 0)
        self.assertEqual(web_paper(3, 60, full(60))[0], "ring")
        self.assertEqual(web_paper(2, 60, ())[0], "apart")
        for many, ties in ((2, row_of(60)), (3, row_of(60)), (2, ring_of(60)), (3, some_tree(chance, 60)), (2, full(60))):
            least = web_rounds(many, 60, ties)
            for _ in range(10):
                row = some_row(chance, many, 0, 59)
                ends = plain_end(row, some_course(chance, tuple(hand for hand, _ in row), least))
                told = tuple((hand, web_answer(many, 60, ties, least, (hand, ends[hand]))) for hand in ends)
                self.assertTrue(is_let(ties, row, told))
        self.assertLess(time.monotonic() - begun, 60)
