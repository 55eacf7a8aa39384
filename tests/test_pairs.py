"""[60] and [61]: slim tasks, walks in webs, choices and far papers."""

import itertools
import random
import time
import unittest

from tests.helping import NO_ROWS, NO_TASKS, ODD, PUT_IN, Case, kinds
from tests.test_tables import EXAMPLE, some_task
from tests.test_refuting import TORN, plain_tables, product_of
from waitless.choosing import choice, far_paper, is_choice, is_far_paper, least
from waitless.errors import BadInput, BadPlace, BadRounds, BadTask, NotSlim, TooMany
from waitless.making import agreement, few, near
from waitless.pairs import far, spots, walk
from waitless.tasks import Task

BOTH = ((0, 5), (1, 7))
WIDE = agreement(3, (0, 1))
NO_CHOICE_ROUNDS = [True, False, "1", 1.0, (1,), [1], {}, -1, 41, 10 ** 30]
NO_PAIRS = NO_ROWS + [((0, 5),), ((1, 7),), ((0, 6),), ((0, 5), (2, 7)), ((0, 5), (1, 8)), ((0, 5.0), (1, 7)),
                      ((False, 5), (1, 7))]
NO_PLACES = [None, True, 0, (), (0,), (0, 9), (1, 0), (2, 1), [0, 1], (False, 1), (0, True), (0, 1.0), (0, 1, 2), "01",
             ((0, 1),), (0, (1,)), (0, [1]), {}]


def plain_levels(ties, place):
    """How many ties away from place the places are, told by going on and on."""
    levels = {place: 0}
    for away in range(len(ties) + 1):
        for one, other in ties:
            for last, following in ((one, other), (other, one)):
                if levels.get(last) == away and following not in levels:
                    levels[following] = away + 1
    return levels


def plain_far(ties, one, other):
    """How many ties a shortest walk has; None if there is none, or one or other is no place."""
    places = {place for tie in ties for place in tie}
    return plain_levels(ties, one).get(other) if one in places and other in places else None


def plain_is_choice(task, rounds, numbers):
    """Whether a dict from the spots to answers is a choice."""
    for row in task.inputs():
        if len(row) == 2:
            one, other = [(hand, numbers[hand, value]) for hand, value in row]
            ties = plain_far(task.answers(row), one, other)
            if ties is None or rounds is not None and ties > 3 ** rounds:
                return False
    return True


def plain_choices(task, rounds):
    """All choices, by trying all answers alone."""
    alone = {row[0]: [answer[0][1] for answer in task.answers(row)] for row in sorted(task.inputs()) if len(row) == 1}
    every = (dict(zip(sorted(alone), values)) for values in itertools.product(*[alone[spot] for spot in sorted(alone)]))
    return [one for one in every if plain_is_choice(task, rounds, one)]


def plain_is_far_paper(task, rounds, paper, chosen=None):
    """A plain judge of far papers, over the texts of what may stand in them."""
    chosen = chosen or {}
    alone = {kinds(row[0]): [answer[0][1] for answer in task.answers(row)] for row in task.inputs() if len(row) == 1}
    if type(paper) is not tuple or len(paper) != 3 or paper[0] not in ("ask", "far") or type(paper[2]) is not dict:
        return False
    if paper[0] == "ask":
        spot = kinds(paper[1])
        if spot not in alone or spot in chosen or {kinds(key) for key in paper[2]} != {kinds(v) for v in alone[spot]}:
            return False
        return all(plain_is_far_paper(task, rounds, paper[2][value], {**chosen, spot: value}) for value in alone[spot])
    row, levels = paper[1:]
    if kinds(row) not in [kinds(one) for one in task.inputs() if len(one) == 2]:
        return False
    if not all(kinds(spot) in chosen for spot in row):
        return False
    ends = [(spot[0], chosen[kinds(spot)]) for spot in row]
    ties = task.answers(row)
    places = {kinds(place) for tie in ties for place in tie} | {kinds(place) for place in ends}
    if {kinds(key) for key in levels} != places or not all(type(level) is int for level in levels.values()):
        return False
    if any(abs(levels[one] - levels[other]) > (rounds is not None) for one, other in ties):
        return False
    apart = abs(levels[ends[0]] - levels[ends[1]])
    return apart > 0 if rounds is None else apart > 3 ** rounds


def slim_task(chance, many=3, spots_each=2, width=3):
    """A task of a few spots and some inputs of two hands, with ties of some kind."""
    table = {}
    for hand in range(many):
        for value in range(chance.randint(1, spots_each)):
            table[((hand, value),)] = [((hand, answer),) for answer in
                                       chance.sample(range(width), chance.randint(1, min(3, width)))]
    alone = [row[0] for row in table]
    for one, other in itertools.combinations(alone, 2):
        if one[0] < other[0] and chance.random() < 0.7:
            every = [((one[0], x), (other[0], y)) for x in range(width) for y in range(width)]
            if chance.random() < 0.5:
                every = [tie for tie in every if tie[0][1] - tie[1][1] in (0, 1)]
            table[one, other] = chance.sample(every, chance.randint(1, len(every)))
    return Task(many, table)


def changed_far_papers(paper, chance):
    """Far papers with one change somewhere."""
    word, where, inner = paper
    for put in ("ask", "far", "", None, 0, ("ask",)):
        yield (put, where, inner)
    for put in PUT_IN + ((0, 5), (True, 0), (1, 0), (0, 0), ((0, 0), (1, 0)), list(where), where[:1],
                         tuple(bool(x) if x in (0, 1) else x for x in where)):
        yield (word, put, inner)
    for put in PUT_IN + (list(inner.items()),):
        yield (word, where, put)
    for key in inner:
        yield (word, where, {one: inner[one] for one in inner if one != key})
        for put in (None, True, 0, 7, (0, 0), (0, 99), (5, 5), "0", (), (0, True)):
            yield (word, where, {put if one == key else one: inner[one] for one in inner})
            yield (word, where, {**inner, put: inner[key]})
            yield (word, where, {**inner, key: put})
        if word == "far":
            for off in (-1, 1, 2, -2, 0.5, 1000):
                yield (word, where, {**inner, key: inner[key] + off})
            yield (word, where, {one: inner[one] + 5 for one in inner})
            yield (word, where, {one: -inner[one] for one in inner})
        else:
            for other in inner:
                yield (word, where, {**inner, key: inner[other]})
            yield (word, where, {**inner, key: paper})
            for changed in itertools.islice(changed_far_papers(inner[key], chance), 120):
                yield (word, where, {**inner, key: changed})
    yield paper[:2]
    yield paper + ({},)
    yield list(paper)


class Pairs(Case):
    def test_example_by_hand(self):
        self.assertEqual(self.same(spots, "task", EXAMPLE), [(0, 5), (1, 7)])
        self.assertEqual(self.same(walk, "task row one other", EXAMPLE, BOTH, (0, 0), (1, 2)),
                         ((0, 0), (1, 1), (0, 1), (1, 2)))
        self.assertEqual(walk(EXAMPLE, BOTH, (1, 2), (0, 0)), ((1, 2), (0, 1), (1, 1), (0, 0)))
        self.assertEqual(walk(EXAMPLE, BOTH, (1, 2), (1, 2)), ((1, 2),))
        self.assertEqual(self.same(far, "task row one other", EXAMPLE, BOTH, (0, 0), (1, 2)), 3)
        self.assertEqual(far(EXAMPLE, BOTH, (0, 1), (0, 1)), 0)
        self.assertEqual(far(EXAMPLE, BOTH, (0, 0), (0, 1)), 2)
        spots(EXAMPLE).clear()
        self.assertEqual(spots(EXAMPLE), [(0, 5), (1, 7)])
        torn = Task(2, {((0, 0),): [((0, 0),)], ((1, 0),): [((1, 0),)],
                        ((0, 0), (1, 0)): [((0, 0), (1, 1)), ((0, 1), (1, 0))]})
        self.assertIsNone(walk(torn, ((0, 0), (1, 0)), (0, 0), (1, 0)))
        self.assertIsNone(far(torn, ((0, 0), (1, 0)), (0, 0), (0, 1)))

    def test_walks_of_all_places(self):
        chance = random.Random(41)
        for _ in range(60):
            task = slim_task(chance, 3, 1, 4)
            self.assertEqual(spots(task), sorted(row[0] for row in task.inputs() if len(row) == 1))
            for row in [row for row in task.inputs() if len(row) == 2]:
                ties = task.answers(row)
                places = sorted({place for tie in ties for place in tie})
                for one, other in itertools.product(places, repeat=2):
                    ties_far = plain_far(ties, one, other)
                    self.assertEqual(far(task, row, one, other), ties_far)
                    found = walk(task, row, one, other)
                    if ties_far is None:
                        self.assertIsNone(found)
                    else:
                        self.assertIs(type(found), tuple)
                        self.assertEqual((found[0], found[-1], len(found)), (one, other, ties_far + 1))
                        for at in range(ties_far):
                            self.assertIn(tuple(sorted(found[at:at + 2])), ties)

    def test_long_rows_of_ties(self):
        begun = time.monotonic()
        task = long_task(3000)
        row = ((0, 0), (1, 0))
        self.assertEqual(far(task, row, (0, 0), (1, 2999)), 5999)
        found = walk(task, row, (0, 0), (1, 2999))
        self.assertEqual((len(found), found[0], found[-1]), (6000, (0, 0), (1, 2999)))
        self.assertEqual(least(task), 8)
        self.assertIs(is_choice(task, 8, choice(task, 8)), True)
        paper = far_paper(task, 7)
        self.assertIs(is_far_paper(task, 7, paper), True)
        self.assertIs(is_far_paper(task, 8, paper), False)
        self.assertLess(time.monotonic() - begun, 60)

    def test_wrong_parameters(self):
        slim = (BadTask, NO_TASKS)
        for called, told in ((spots, ()), (walk, (None,) * 3), (far, (None,) * 3), (is_choice, (None, None)),
                             (choice, (None,)), (least, ()), (far_paper, (None,)), (is_far_paper, (None, None))):
            for task in NO_TASKS:
                self.told(BadTask, called, task, *told)
            self.told(NotSlim, called, WIDE, *told)
            self.told(NotSlim, called, few(4, (1,), 1), *(99 for _ in told))
        for called in (walk, far):
            self.wrong(called, [EXAMPLE, BOTH, (0, 0), (1, 1)], slim, (BadInput, NO_PAIRS), (BadPlace, NO_PLACES),
                       (BadPlace, NO_PLACES))
        for called in (choice, far_paper):
            self.wrong(called, [EXAMPLE, 1], slim, (BadRounds, NO_CHOICE_ROUNDS))
        for called in (is_choice, is_far_paper):
            self.wrong(called, [EXAMPLE, 1, None], slim, (BadRounds, NO_CHOICE_ROUNDS), (None, []))
        # Four hands in all may be there, as long as none of the inputs has three.
        task = Task(4, {((3, 5),): [((3, 1),)], ((1, 5),): [((1, 1),)], ((1, 5), (3, 5)): [((1, 1), (3, 1))]})
        self.assertEqual((spots(task), least(task)), ([(1, 5), (3, 5)], 0))

    def test_too_many(self):
        for count in (100, 101):
            task = Task(1, {((0, value),): [((0, 0),)] for value in range(count)})
            for called, told in ((choice, (3,)), (least, ()), (far_paper, (None,))):
                if count == 101:
                    self.assertEqual(self.told(TooMany, called, task, *told).most, 100)
                else:
                    called(task, *told)
            self.told(BadRounds, choice, task, 41)
            self.assertIs(is_choice(task, None, {(0, value): 0 for value in range(count)}), True)
            self.assertIs(is_far_paper(task, None, None), False)
            self.assertEqual(len(spots(task)), count)
        for counts, let in (((4096,), True), ((4097,), False), ((2,) * 12, True), ((2,) * 13, False), ((64, 65), False)):
            task = Task(1, {((0, value),): [((0, answer),) for answer in range(many)] for value, many in enumerate(counts)})
            for called, told in ((choice, (3,)), (least, ()), (far_paper, (None,))):
                if not let:
                    self.assertEqual(self.told(TooMany, called, task, *told).most, 4096)
                else:
                    called(task, *told)
            self.assertIs(is_choice(task, 0, {(0, value): 0 for value in range(len(counts))}), True)
        # Both are too many: 100 is told.
        task = Task(1, {((0, value),): [((0, 0),), ((0, 1),)] for value in range(101)})
        self.assertEqual(self.told(TooMany, least, task).most, 100)


class Choosing(Case):
    def test_example_by_hand(self):
        self.assertEqual(self.same(choice, "task rounds", EXAMPLE, 1), {(0, 5): 0, (1, 7): 2})
        self.assertIsNone(choice(EXAMPLE, 0))
        self.assertEqual(choice(EXAMPLE, None), {(0, 5): 0, (1, 7): 2})
        self.assertEqual(self.same(least, "task", EXAMPLE), 1)
        paper = ("ask", (0, 5), {0: ("ask", (1, 7), {
            2: ("far", BOTH, {(0, 0): 0, (1, 1): 1, (0, 1): 2, (1, 2): 3}),
            3: ("far", BOTH, {(0, 0): -7, (1, 1): -7, (0, 1): -7, (1, 2): -7, (1, 3): 9})})})
        self.assertIs(self.same(is_far_paper, "task rounds thing", EXAMPLE, 0, paper), True)
        self.assertIs(is_far_paper(EXAMPLE, 1, paper), False)
        self.assertIs(is_far_paper(EXAMPLE, None, paper), False)
        self.assertIs(self.same(is_choice, "task rounds thing", EXAMPLE, 1, {(0, 5): 0, (1, 7): 2}), True)
        for numbers, rounds, let in (((0, 2), 0, False), ((0, 2), None, True), ((0, 2), 40, True), ((0, 3), None, False),
                                     ((1, 2), 0, False), ((0, 1), 0, False)):
            self.assertIs(is_choice(EXAMPLE, rounds, dict(zip([(0, 5), (1, 7)], numbers))), let)
        self.assertIsNone(least(TORN))
        self.assertEqual([least(near(2, top)) for top in range(6)], [0, 0, 1, 1, 2, 2])

    def test_small_tasks_by_trying_all_answers(self):
        chance = random.Random(42)
        found = {}
        while len(found) < 4 or min(found.values()) < 8:
            task = slim_task(chance, 3, 2, chance.choice((2, 3, 6)))
            every = {rounds: plain_choices(task, rounds) for rounds in (0, 1, 2, 3, None)}
            told = self.same(least, "task", task)
            found[told] = found.get(told, 0) + 1
            if found[told] > 20:
                continue
            self.assertEqual(told, next((rounds for rounds in (0, 1, 2, 3) if every[rounds]), None))
            self.assertIs(told is None, not every[None])
            for rounds in every:
                one = self.same(choice, "task rounds", task, rounds)
                paper = self.same(far_paper, "task rounds", task, rounds)
                self.assertIs(one is None, not every[rounds])
                self.assertIs(paper is None, one is not None)
                if one is not None:
                    self.assertIn(one, every[rounds])
                    self.assertEqual(list(one), sorted(one))
                    self.check_choices(task, rounds, one, every[rounds], chance)
                else:
                    self.assertIs(plain_is_far_paper(task, rounds, paper), True)
                    self.assertIs(self.same(is_far_paper, "task rounds thing", task, rounds, paper), True)
                    self.check_keys(paper)
                    every_change = list(itertools.islice(changed_far_papers(paper, chance), 3000))
                    for changed in chance.sample(every_change, min(150, len(every_change))):
                        self.assertIs(is_far_paper(task, rounds, changed), plain_is_far_paper(task, rounds, changed))
                    for other in (0, 1, 2, 3, 40, None):
                        self.assertIs(is_far_paper(task, other, paper), plain_is_far_paper(task, other, paper))

    def check_choices(self, task, rounds, one, every, chance):
        texts = {kinds(sorted(right.items())) for right in every}
        for _ in range(20):
            spot = chance.choice(list(one))
            changed = {**one, spot: chance.choice((0, 1, 2, 3, True, False, None, "0", 1.0, -1, 10 ** 40))}
            self.assertIs(is_choice(task, rounds, changed), kinds(sorted(changed.items())) in texts)

    def check_keys(self, paper):
        self.assertEqual(list(paper[2]), sorted(paper[2]))
        if paper[0] == "ask":
            for value in paper[2]:
                self.check_keys(paper[2][value])

    def test_tables_exactly_if_there_is_a_choice(self):
        chance = random.Random(43)
        found = {}
        while len(found) < 4 or min(found.values()) < 8:
            task = some_task(chance, chance.randint(1, 2), chance.randint(1, 3), chance.randint(2, 3))
            rounds = chance.randint(0, 1)
            if product_of(task, rounds) > 3000:
                continue
            right = len(plain_tables(task, rounds)) > 0
            found[rounds, right] = found.get((rounds, right), 0) + 1
            self.assertIs(choice(task, rounds) is not None, right)
            self.assertIs(far_paper(task, rounds) is None, right)

    def test_judged_of_any_value(self):
        right = {(0, 5): 0, (1, 7): 2}
        for thing in ODD + [list(right.items()), tuple(right), {**right, (0, 6): 0}, {(0, 5): 0}, {**right, None: 0},
                            {(False, 5): 0, (1, 7): 2}, {(0, 5): 0, (True, 7): 2}, {(0, 5): False, (1, 7): 2},
                            {((0, 5),): 0, ((1, 7),): 2}, {(0, 5): 0, (1, 7): 2.0}, {(0, 5): 0, (1, 7): None}]:
            for rounds in (0, 1, 40, None):
                self.assertIs(is_choice(EXAMPLE, rounds, thing), False)
                self.assertIs(is_far_paper(EXAMPLE, rounds, thing), False)
        self.assertIs(is_choice(EXAMPLE, 1, {(1, 7): 2, (0, 5): 0}), True)
        # A paper within itself asks for a spot that was asked.
        endless = ("ask", (0, 5), {})
        endless[2][0] = endless
        self.assertIs(is_far_paper(EXAMPLE, 0, endless), False)

    def test_levels_by_the_limit(self):
        # The levels of a row of nine ties: for one round too near by one, for two rounds just near enough.
        task = long_task(5)
        row = ((0, 0), (1, 0))
        levels = {place: at for at, place in enumerate(sorted({place for tie in task.answers(row) for place in tie},
                                                              key=lambda place: (place[1], place[0])))}
        self.assertEqual(levels[1, 4], 9)
        paper = ("ask", (1, 0), {4: ("ask", (0, 0), {0: ("far", row, levels)})})
        for rounds, let in ((0, True), (1, True), (2, False), (None, False)):
            self.assertIs(is_far_paper(task, rounds, paper), let)
        for rounds in (0, 1, 2, None):
            for changed in self.changed_levels(levels):
                self.check_levels(task, rounds, row, changed)
        squeezed = {place: min(level, 4) for place, level in levels.items()}
        paper = ("ask", (1, 0), {4: ("ask", (0, 0), {0: ("far", row, squeezed)})})
        self.assertIs(is_far_paper(task, 1, paper), True)
        self.assertIs(is_far_paper(task, 1, ("ask", (1, 0), {4: ("ask", (0, 0), {0: (
            "far", row, {place: min(level, 3) for place, level in levels.items()})})})), False)
        self.assertIs(is_far_paper(task, 1, ("ask", (1, 0), {4: ("far", row, squeezed)})), False)
        self.assertIs(is_far_paper(task, 1, ("far", row, squeezed)), False)

    def changed_levels(self, levels):
        """The levels with one change: steps of two, values and keys of other kinds, other places."""
        for times in (-1, 0, 1, 2, 3, 1.0):
            yield {place: level * times for place, level in levels.items()}
        yield {place: 5 for place in levels}
        yield {place: place == (1, 4) for place in levels}
        for place, level in levels.items():
            for put in (level + 1, level - 1, level + 2, level - 2, float(level), level + 0.5, bool(level), True, None, "1",
                        (level,), 10 ** 40, -10 ** 40):
                yield {**levels, place: put}
            left = {one: levels[one] for one in levels if one != place}
            yield left
            for put in (None, True, 0, "0", (), place + (0,), place[:1], (place,), (place[0], None), (place[0], str(place[1])),
                        (bool(place[0]), place[1]), (place[0], float(place[1])), (place[0], 77), (2, place[1])):
                yield {**left, put: level}
        yield {**levels, (0, 77): 0}
        yield {**levels, None: 0}
        yield list(levels.items())

    def check_levels(self, task, rounds, row, levels):
        paper = ("ask", (1, 0), {4: ("ask", (0, 0), {0: ("far", row, levels)})})
        self.assertIs(is_far_paper(task, rounds, paper), plain_is_far_paper(task, rounds, paper), levels)

    def test_large(self):
        begun = time.monotonic()
        # A hundred spots: hand 0 has 50, hand 1 50; twelve of them choose one of two.
        table = {((hand, value),): [((hand, 0),)] + ([((hand, 1),)] if value < 6 else [])
                 for hand in (0, 1) for value in range(50)}
        for value in range(50):
            for other in range(50):
                table[(0, value), (1, other)] = [((0, 0), (1, 0)), ((0, 1), (1, 1)), ((0, 0), (1, 1))]
        task = Task(2, table)
        self.assertEqual(least(task), 0)
        self.assertIs(is_choice(task, 0, choice(task, 0)), True)
        torn = dict(table)
        torn[(0, 49), (1, 49)] = [((0, 0), (1, 1)), ((0, 1), (1, 0))]
        for rounds in (0, 40, None):
            paper = far_paper(Task(2, torn), rounds)
            self.assertIs(is_far_paper(Task(2, torn), rounds, paper), True)
        # All twelve are asked for, and it is told only at the end.
        apart = {((hand, value),): [((hand, answer),) for answer in (0, 1)] for hand in (0, 1) for value in range(6)}
        apart[(0, 5), (1, 5)] = [((0, 7), (1, 7))]
        paper = far_paper(Task(2, apart), None)
        self.assertIs(is_far_paper(Task(2, apart), None, paper), True)
        self.assertEqual((choice(Task(2, apart), None), least(Task(2, apart))), (None, None))
        # 40 rounds, and walks of any length.
        self.assertEqual(least(long_task(700)), 7)
        self.assertIs(is_choice(long_task(700), 40, choice(long_task(700), 40)), True)
        self.assertLess(time.monotonic() - begun, 100)

    def test_deep_far_papers(self):
        # More spots than functions can call themselves, asked one behind the other.
        count = 2000
        table = {((0, value),): [((0, 0),)] for value in range(count)}
        table[((1, 0),)] = [((1, 1),)]
        table[((0, 0), (1, 0))] = [((0, 0), (1, 0))]
        task = Task(2, table)
        paper = ("far", ((0, 0), (1, 0)), {(0, 0): 0, (1, 0): 0, (1, 1): 2})
        paper = ("ask", (1, 0), {1: paper})
        for value in range(count):
            paper = ("ask", (0, value), {0: paper})
        self.assertIs(is_far_paper(task, None, paper), True)
        self.assertIs(is_far_paper(task, 0, paper), True)
        self.assertIs(is_far_paper(task, 1, paper), False)


def long_task(size):
    """Two spots whose answers are at the two ends of a row of 2 * size - 1 ties."""
    ties = [((0, value), (1, value)) for value in range(size)] + [((0, value + 1), (1, value)) for value in range(size - 1)]
    return Task(2, {((0, 0),): [((0, 0),)], ((1, 0),): [((1, size - 1),)], ((0, 0), (1, 0)): ties})


if __name__ == "__main__":
    unittest.main()
