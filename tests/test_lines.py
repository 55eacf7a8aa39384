"""[62] and [63]: positions, lines, and how many there are."""

import itertools
import random
import time
import unittest

from tests.helping import NO_HAND, NO_HANDS, NO_NUMBERS, NO_ROUNDS, NO_ROWS, NO_TASKS, Case, plain_blocks, plain_courses, \
    plain_end, plain_leaves
from tests.test_pairs import BOTH, NO_PAIRS, NO_PLACES, WIDE, long_task, slim_task
from tests.test_tables import EXAMPLE, plain_corners, plain_is_table, some_task
from tests.test_refuting import plain_tables, product_of
from waitless.choosing import choice, least
from waitless.counting import lines_many, walks_many
from waitless.courses import heard
from waitless.easing import eased
from waitless.errors import BadChoice, BadCount, BadCourse, BadHand, BadHands, BadInput, BadPlace, BadPosition, \
    BadRounds, BadTask, NotSlim, TooMany
from waitless.lines import Line, course_at, positions
from waitless.pairs import far
from waitless.refuting import tables_many
from waitless.tables import is_table
from waitless.tasks import Task

RIGHT = {(0, 5): 0, (1, 7): 2}


def plain_positions(hands, course):
    """Positions, round by round."""
    at = {hands[0]: 0, hands[1]: 1}
    for blocks in course:
        alone = blocks[0] if len(blocks) == 2 else ()
        at = {hand: 3 * at[hand] if (hand,) == alone else sum(at.values()) + at[other]
              for hand, other in (hands, hands[::-1])}
    return at


def plain_walks(ties, one, other, many):
    """How many walks there are, by going back from the other end one by one."""
    if many == 0:
        return int(one == other)
    return sum(plain_walks(ties, step, other, many - 1) for tie in ties for step in tie
               if one in tie and step != one)


class Positions(Case):
    def test_by_hand(self):
        course = (((0,), (1,)), ((0, 1),))
        self.assertEqual(self.same(positions, "hands course", (0, 1), course), {0: 2, 1: 1})
        self.assertEqual(self.same(course_at, "hands rounds place", (0, 1), 2, 1), course)
        self.assertEqual(positions((1, 3), ()), {1: 0, 3: 1})
        self.assertEqual(course_at((1, 3), 0, 0), ())
        self.assertEqual(course_at((1, 3), 1, 2), (((3,), (1,)),))
        self.assertEqual(list(positions((0, 1), (((1,), (0,)),)).items()), [(0, 2), (1, 3)])

    def test_all_courses_of_few_rounds(self):
        for hands in ((0, 1), (2, 3), (0, 3)):
            for rounds in range(6):
                found = {}
                for course in plain_courses(hands, rounds):
                    told = positions(hands, course)
                    self.assertEqual(told, plain_positions(hands, course))
                    low, high = told[hands[0]], told[hands[1]]
                    self.assertEqual((low % 2, high % 2, abs(low - high)), (0, 1, 1))
                    self.assertTrue(0 <= min(low, high) and max(low, high) <= 3 ** rounds)
                    self.assertEqual(course_at(hands, rounds, min(low, high)), course)
                    found[min(low, high)] = course
                    for hand in hands:
                        self.assertIs(told[hand] in (0, 3 ** rounds), heard(hands, course, hand) == (hand,))
                self.assertEqual(sorted(found), list(range(3 ** rounds)))

    def test_forty_rounds(self):
        chance = random.Random(51)
        for rounds in (6, 7, 20, 39, 40):
            for place in [0, 1, 3 ** rounds - 1] + [chance.randrange(3 ** rounds) for _ in range(50)]:
                course = course_at((1, 2), rounds, place)
                self.assertEqual(len(course), rounds)
                told = positions((1, 2), course)
                self.assertEqual(sorted(told.values()), [place, place + 1])
                self.assertEqual(told, plain_positions((1, 2), course))
        for _ in range(50):
            course = tuple(chance.choice(plain_blocks((0, 2))) for _ in range(40))
            self.assertEqual(course_at((0, 2), 40, min(positions((0, 2), course).values())), course)

    def test_wrong_parameters(self):
        hands = (BadHands, NO_HANDS + [(0,), (0, 1, 2)])
        no_courses = [None, True, [], [((0, 1),)], (((0, 1), ()),), (((0,),),), (((True, 0),),), (((0, 1),),) * 41,
                      (((0, 2),),)]
        self.wrong(positions, [(0, 1), ()], hands, (BadCourse, no_courses))
        self.wrong(course_at, [(0, 1), 2, 3], hands, (BadRounds, NO_NUMBERS + [-1, 41, 10 ** 30]),
                   (BadPlace, NO_NUMBERS + [-1, 9, 10 ** 40]))
        self.told(BadPlace, course_at, (0, 1), 0, 1)
        self.told(BadPlace, course_at, (0, 1), 40, 3 ** 40)


class Lines(Case):
    def test_example_by_hand(self):
        line = Line(task=EXAMPLE, rounds=1, choice=RIGHT)
        self.assertEqual((line.rounds, line.choice), (1, RIGHT))
        self.assertEqual(line.table(), {(0, ((0, 5),)): 0, (0, ((0, 5), (1, 7))): 1, (1, ((0, 5), (1, 7))): 1,
                                        (1, ((1, 7),)): 2})
        self.assertEqual([line.answer(hand, BOTH, at) for hand, at in ((0, 0), (1, 1), (0, 2), (1, 3))], [0, 1, 1, 2])
        self.assertEqual(line.answer(hand=1, seen=BOTH, position=1), 1)
        self.assertEqual([line.answer(0, ((0, 5),), at) for at in (0, 3)], [0, 0])
        self.assertEqual(line.answers(row=BOTH, course=(((0, 1),),)), ((0, 1), (1, 1)))
        self.assertEqual(line.answers(((1, 7),), (((1,),),)), ((1, 2),))

    def test_lines_of_small_tasks(self):
        chance = random.Random(52)
        found = {}
        while len(found) < 8 or min(found.values()) < 6:
            task = slim_task(chance, 3, 2, chance.choice((2, 4, 6)))
            rounds = chance.randint(0, 3)
            one = choice(task, rounds)
            if one is None:
                continue
            key = (rounds, any(len(row) == 2 for row in task.inputs()))
            found[key] = found.get(key, 0) + 1
            if found[key] <= 15:
                self.check_line(task, rounds, one)

    def check_line(self, task, rounds, one):
        line = Line(task, rounds, one)
        self.assertEqual((line.rounds, line.choice), (rounds, one))
        self.assertIsNot(line.choice, one)
        told = line.table()
        self.assertEqual(list(told), sorted(plain_corners(task, rounds)))
        self.assertIs(plain_is_table(task, rounds, told), True)
        self.assertIs(is_table(task, rounds, told), True)
        for row in task.inputs():
            hands = tuple(hand for hand, _ in row)
            for course in plain_courses(hands, rounds):
                answers = line.answers(row, course)
                self.assertIn(answers, task.answers(row))
                self.assertEqual(answers, line.answers(row, course))
                at = plain_positions(hands, course) if len(row) == 2 else {hands[0]: 0}
                for (hand, view), (_, number) in zip(plain_end(row, course).items(), answers):
                    seen = tuple(sorted(plain_leaves(rounds, ((hand, view),))))
                    self.assertEqual(told[hand, view], number)
                    self.assertEqual(line.answer(hand, seen, at[hand]), number)
                    self.assertEqual(line.answer(hand, row, at[hand]), number)
                    if at[hand] in (0, 3 ** rounds):
                        self.assertEqual(number, one[hand, dict(row)[hand]])
            for hand, value in row:
                self.assertEqual(line.answer(hand, ((hand, value),), 0), one[hand, value])
                self.assertEqual(line.answer(hand, ((hand, value),), 3 ** rounds), one[hand, value])

    def test_forty_rounds_and_long_walks(self):
        begun = time.monotonic()
        chance = random.Random(53)
        row = ((0, 0), (1, 0))
        for size, rounds in ((3000, 40), (3000, 8), (365, 6), (365, 20), (1, 40), (1, 0)):
            task = long_task(size)
            one = choice(task, rounds)
            line = Line(task, rounds, one)
            ties = task.answers(row)
            places = [0, 1, 2 * size - 2, 2 * size - 1, 2 * size, 3 ** rounds - 1]
            for place in places + [chance.randrange(3 ** rounds) for _ in range(60)]:
                if place >= 3 ** rounds:
                    continue
                self.assertIn(line.answers(row, course_at((0, 1), rounds, place)), ties)
                even, odd = place + place % 2, place + 1 - place % 2
                self.assertIn(((0, line.answer(0, row, even)), (1, line.answer(1, row, odd))), ties)
            self.assertEqual((line.answer(0, row, 0), line.answer(1, row, 3 ** rounds)), (0, size - 1))
            if rounds > 3:
                self.assertEqual(self.told(TooMany, line.table).most, 6000)
        self.assertLess(time.monotonic() - begun, 60)

    def test_what_is_handed_out_is_not_tied_to_the_line(self):
        one = dict(RIGHT)
        line = Line(EXAMPLE, 1, one)
        one.clear()
        line.table().clear()
        self.assertEqual(line.choice, RIGHT)
        self.assertEqual(line.answers(BOTH, (((1,), (0,)),)), ((0, 1), (1, 2)))
        self.assertEqual(len(line.table()), 4)
        self.assertFalse(line == 1)

    def test_wrong_parameters(self):
        no_choices = [None, True, [], (), {}, {(0, 5): 0}, {**RIGHT, (1, 7): 3}, {**RIGHT, (0, 5): False},
                      list(RIGHT.items()), {**RIGHT, (0, 6): 0}]
        self.wrong(Line, [EXAMPLE, 1, RIGHT], (BadTask, NO_TASKS), (BadRounds, NO_NUMBERS + [-1, 41]),
                   (BadChoice, no_choices))
        self.told(NotSlim, Line, WIDE, 99, None)
        self.told(BadChoice, Line, EXAMPLE, 0, RIGHT)
        line = Line(EXAMPLE, 1, RIGHT)
        inputs = (BadInput, NO_ROWS + [((0, 6),), ((0, 5), (2, 7)), ((0, 5), (1, 8))])
        self.wrong(line.answer, [0, BOTH, 2], (BadHand, NO_HAND), inputs, (BadPosition, NO_NUMBERS + [-1, 1, 3, 4, 9]))
        self.wrong(line.answer, [1, BOTH, 1], (BadHand, NO_HAND), inputs, (BadPosition, NO_NUMBERS[:2] + [-1, 0, 2, 4, 5]))
        for hand, seen in ((0, ((1, 7),)), (1, ((0, 5),)), (2, BOTH), (3, BOTH)):
            self.told(BadInput, line.answer, hand, seen, 0)
        for hand, seen in ((0, ((0, 5),)), (1, ((1, 7),))):
            for position in NO_NUMBERS + [-1, 1, 2, 4]:
                self.told(BadPosition, line.answer, hand, seen, position)
        no_courses = [None, True, [], (), (((0,),),), (((0, 1),),) * 2, (((0, 1), (0,)),), (((0, True),),), [((0, 1),)]]
        self.wrong(line.answers, [BOTH, (((0, 1),),)], inputs, (BadCourse, no_courses))
        self.told(BadCourse, line.answers, ((0, 5),), (((1,),),))
        self.told(BadInput, line.answers, ((0, 6),), None)

    def test_tables_of_many_facets(self):
        # In 3 rounds two hands have 27 facets: 6000 of all inputs are let, and not one more.
        for more, let in ((7, True), (8, False)):
            table = {((0, 0),): [((0, 0),)]}
            for value in range(214):
                table[((1, value),)] = [((1, 0),)]
                table[(0, 0), (1, value)] = [((0, 0), (1, 0))]
            for value in range(more):
                table[((0, 1 + value),)] = [((0, 0),)]
            task = Task(2, table)
            line = Line(task, 3, {spot[0]: 0 for spot in table if len(spot) == 1})
            if let:
                self.assertIs(is_table(task, 3, line.table()), True)
            else:
                self.assertEqual(self.told(TooMany, line.table).most, 6000)
                self.assertEqual(len(Line(task, 2, line.choice).table()), 1 + more + 214 * 9)


class Counting(Case):
    def test_by_hand(self):
        self.assertEqual(self.same(walks_many, "task row one other ties", EXAMPLE, BOTH, (0, 0), (1, 2), 3), 1)
        self.assertEqual([walks_many(EXAMPLE, BOTH, (0, 0), (1, 1), ties) for ties in range(6)], [0, 1, 0, 2, 0, 5])
        self.assertEqual(walks_many(EXAMPLE, BOTH, (0, 0), (0, 0), 0), 1)
        self.assertEqual([lines_many(EXAMPLE, rounds) for rounds in range(3)], [0, 1, 21])
        self.assertEqual(self.same(lines_many, "task rounds", EXAMPLE, 3), 121393)

    def test_walks_of_small_webs(self):
        chance = random.Random(54)
        for _ in range(40):
            task = slim_task(chance, 2, 1, 3)
            for row in [row for row in task.inputs() if len(row) == 2]:
                ties = task.answers(row)
                places = sorted({place for tie in ties for place in tie})
                for one, other in itertools.product(places, repeat=2):
                    for many in range(6):
                        self.assertEqual(walks_many(task, row, one, other, many), plain_walks(ties, one, other, many))

    def test_lines_are_tables(self):
        chance = random.Random(55)
        found = {}
        while len(found) < 4 or min(found.values()) < 30:
            task = some_task(chance, chance.randint(1, 2), chance.randint(1, 2), chance.randint(2, 3))
            rounds = chance.randint(0, 3)
            try:
                many = tables_many(task, rounds)
            except TooMany:
                continue
            found[rounds] = found.get(rounds, 0) + 1
            self.assertEqual(self.same(lines_many, "task rounds", task, rounds), many)
            if rounds < 2 and product_of(task, rounds) < 500:
                self.assertEqual(many, len(plain_tables(task, rounds)))

    def test_lines_by_their_sum(self):
        chance = random.Random(56)
        for _ in range(40):
            task = slim_task(chance, 3, 2, 3)
            alone = {row[0]: task.answers(row) for row in task.inputs() if len(row) == 1}
            for rounds in (0, 1, 2):
                total = 0
                for told in itertools.product(*alone.values()):
                    chosen = dict(zip(alone, [answer[0] for answer in told]))
                    ways = 1
                    for row in task.inputs():
                        if len(row) == 2:
                            one, other = [chosen[spot] for spot in row]
                            places = {place for tie in task.answers(row) for place in tie}
                            ways *= (walks_many(task, row, one, other, 3 ** rounds)
                                     if one in places and other in places else 0)
                    total += ways
                self.assertEqual(lines_many(task, rounds), total)
                self.assertIs(total > 0, choice(task, rounds) is not None)

    def test_eased_tasks(self):
        chance = random.Random(57)
        seen = {}
        while len(seen) < 3 or min(seen.values()) < 10:
            task = slim_task(chance, 2, 2, chance.choice((3, 5, 6)))
            told = least(task)
            seen[told] = seen.get(told, 0) + 1
            if seen[told] > 25:
                continue
            other = eased(task)
            self.assertEqual(least(other), told - 1 if told else told)
            for row in task.inputs():
                if len(row) == 2:
                    places = sorted({place for tie in task.answers(row) for place in tie})
                    near = [(one, last) for one in places for last in places if one[0] < last[0]
                            and (far(task, row, one, last) or 9) <= 3]
                    self.assertEqual(other.answers(row), near)

    def test_wrong_parameters(self):
        self.wrong(walks_many, [EXAMPLE, BOTH, (0, 0), (1, 1), 3], (BadTask, NO_TASKS), (BadInput, NO_PAIRS),
                   (BadPlace, NO_PLACES), (BadPlace, NO_PLACES), (BadCount, NO_NUMBERS + [-1, 730, 10 ** 30]))
        self.wrong(lines_many, [EXAMPLE, 1], (BadTask, NO_TASKS), (BadRounds, NO_ROUNDS))
        self.told(NotSlim, walks_many, WIDE, None, None, None, None)
        self.told(NotSlim, lines_many, WIDE, None)
        for counts, most in (((1,) * 101, 100), ((2,) * 13, 4096), ((2,) * 101, 100), ((4097,), 4096)):
            task = Task(1, {((0, value),): [((0, told),) for told in range(many)] for value, many in enumerate(counts)})
            self.assertEqual(self.told(TooMany, lines_many, task, 6).most, most)
            self.told(BadRounds, lines_many, task, 7)
        for counts in ((1,) * 100, (2,) * 12, (4096,)):
            task = Task(1, {((0, value),): [((0, told),) for told in range(many)] for value, many in enumerate(counts)})
            self.assertEqual(lines_many(task, 6), {100: 1, 12: 4096, 1: 4096}[len(counts)])

    def test_large(self):
        begun = time.monotonic()
        task = long_task(400)
        row = ((0, 0), (1, 0))
        self.assertEqual(walks_many(task, row, (0, 0), (1, 364), 729), 1)
        self.assertEqual(walks_many(task, row, (0, 0), (1, 363), 729), 728)
        self.assertEqual(walks_many(task, row, (0, 0), (1, 365), 729), 0)
        self.assertEqual(walks_many(task, row, (0, 0), (0, 0), 729), 0)
        self.assertTrue(walks_many(task, row, (0, 0), (0, 0), 728) > 10 ** 200)
        self.assertEqual(lines_many(long_task(365), 6), 1)
        self.assertEqual(lines_many(long_task(366), 6), 0)
        # Two spots, all ties: so many ways to go on at each tie.
        full = Task(2, {((0, 0),): [((0, value),) for value in range(64)], ((1, 0),): [((1, value),) for value in range(64)],
                        row: list(itertools.product([(0, value) for value in range(64)], [(1, value) for value in range(64)]))})
        self.assertEqual(lines_many(full, 2), 4096 * 64 ** 8)
        many = {((hand, value),): [((hand, told),) for told in range(2 if value < 6 else 1)]
                for hand in (0, 1) for value in range(50)}
        for value in range(50):
            for other in range(8):
                many[(0, value), (1, other)] = [((0, 0), (1, 0)), ((0, 1), (1, 1)), ((0, 0), (1, 1)), ((0, 1), (1, 0))]
        self.assertEqual(lines_many(Task(2, many), 6), 4096 * (2 ** 728) ** 400)
        self.assertLess(time.monotonic() - begun, 100)


if __name__ == "__main__":
    unittest.main()
