"""[53]: one round less."""

import itertools
import random
import time
import unittest

from tests.helping import NO_ROWS, NO_TASKS, ODD, PUT_IN, Case, groups, kinds, plain_blocks, plain_parts, \
    plain_sights
from tests.test_tables import EXAMPLE, NO_TASK_ROUNDS, ONLY, WIDE, plain_corners, plain_is_table, \
    some_task
from tests.test_refuting import TORN
from waitless.choosing import least
from waitless.counting import lines_many
from waitless.easing import eased, easing, is_easing, led_back, needed
from waitless.errors import BadInput, BadRounds, BadRow, BadTask, NoTable, TooMany
from waitless.making import agreement, few, near
from waitless.refuting import table
from waitless.tables import is_table
from waitless.tasks import Task


def plain_keys(hands):
    """All pairs of a hand and hands with it."""
    return [(hand, some) for hand in hands for some in groups(hands) if hand in some]


def plain_is_easing(task, row, told, thing):
    """Whether a dict from the right keys to numbers is an easing."""
    hands = tuple(hand for hand, _ in row)
    if any(thing[hand, (hand,)] != value for hand, value in told):
        return False
    for blocks in plain_blocks(hands):
        sees = plain_sights(blocks)
        if tuple((hand, thing[hand, tuple(sorted(sees[hand]))]) for hand in hands) not in task.answers(row):
            return False
    return True


def plain_easings(task, row, told):
    """All easings, by trying all numbers that stand in answers."""
    hands = tuple(hand for hand, _ in row)
    values = {hand: sorted({dict(answer)[hand] for answer in task.answers(row)}) for hand in hands}
    keys = [key for key in plain_keys(hands) if len(key[1]) > 1]
    alone = {(hand, (hand,)): value for hand, value in told}
    for numbers in itertools.product(*[values[hand] for hand, _ in keys]):
        one = {**alone, **dict(zip(keys, numbers))}
        if plain_is_easing(task, row, told, one):
            yield one


def all_told(task, row, more=()):
    """All rows with the hands of row and values that stand in answers, or more ones."""
    values = [sorted({answer[at][1] for answer in task.answers(row)} | set(more)) for at in range(len(row))]
    return [tuple((hand, value) for (hand, _), value in zip(row, told)) for told in itertools.product(*values)]


def small_task(chance):
    """A task of which all easings can be tried."""
    if chance.random() < 0.5:
        return some_task(chance, chance.randint(1, 2), chance.randint(1, 3), 3)
    task = some_task(chance, 3, 1, 2)
    return few_answers(chance, task)


def few_answers(chance, task):
    """The task with a few of its answers."""
    return Task(task.many, {row: chance.sample(answers, chance.randint(1, min(5, len(answers))))
                            for row, answers in task.table().items()})


class Easing(Case):
    def test_example_by_hand(self):
        both = ((0, 5), (1, 7))
        told = ((0, 0), (1, 2))
        by_hand = {(0, (0,)): 0, (0, (0, 1)): 1, (1, (0, 1)): 1, (1, (1,)): 2}
        self.assertEqual(self.same(easing, "task row told", EXAMPLE, both, told), by_hand)
        self.assertEqual(list(easing(EXAMPLE, both, told)), sorted(by_hand))
        self.assertIs(is_easing(EXAMPLE, both, told, by_hand), True)
        self.assertIsNone(easing(EXAMPLE, both, ((0, 0), (1, 3))))
        self.assertEqual(self.same(eased, "task", EXAMPLE), Task(2, {
            ((0, 5),): [((0, 0),)], ((1, 7),): [((1, 2),), ((1, 3),)],
            both: [((0, 0), (1, 1)), ((0, 0), (1, 2)), ((0, 1), (1, 1)), ((0, 1), (1, 2))]}))
        self.assertEqual(self.same(needed, "task", EXAMPLE), 1)
        self.assertEqual(self.same(led_back, "task rounds table", EXAMPLE, 1, ONLY), {(0, 5): 0, (1, 7): 2})

    def test_easings_of_small_tasks(self):
        chance = random.Random(21)
        found = {}
        while len(found) < 6 or min(found.values()) < 25:
            task = small_task(chance)
            row = chance.choice(task.inputs())
            told = chance.choice(all_told(task, row, (0, 7)))
            every = list(plain_easings(task, row, told))
            key = (len(row), len(every) > 0)
            found[key] = found.get(key, 0) + 1
            if found[key] > 60:
                continue
            one = self.same(easing, "task row told", task, row, told)
            self.assertIs(one is None, len(every) == 0)
            if one is not None:
                self.assertIn(one, every)
                self.assertEqual(list(one), sorted(one))
            hands = tuple(hand for hand, _ in row)
            for _ in range(20):
                keys = plain_keys(hands)
                thing = {key: chance.randint(0, 2) for key in keys}
                if every:
                    thing = dict(chance.choice(every))
                    for key in chance.sample(keys, chance.randint(0, min(2, len(keys)))):
                        thing[key] = chance.choice((0, 1, 2, 10 ** 40))
                self.assertIs(self.same(is_easing, "task row told thing", task, row, told, thing),
                              plain_is_easing(task, row, told, thing))

    def test_eased_small_tasks(self):
        chance = random.Random(22)
        for _ in range(120):
            task = small_task(chance)
            found = self.same(eased, "task", task)
            self.assertEqual(found.inputs(), task.inputs())
            for row in task.inputs():
                right = [told for told in all_told(task, row) if any(plain_easings(task, row, told))]
                self.assertEqual(found.answers(row), right)
                self.assertTrue(set(task.answers(row)) <= set(right))

    def test_four_hands(self):
        hands = (0, 1, 2, 3)
        row = tuple((hand, 0) for hand in hands)
        chance = random.Random(23)
        seen = {True: 0, False: 0}
        for _ in range(30):
            # At most three ways to take values of all hands: one has up to three, the others one.
            every = [((0, value), (1, 1), (2, 2), (3, 3)) for value in range(3)]
            answers = chance.sample(every, chance.randint(1, 3))
            table_of = {part: [tuple(pair for pair in answers[0] if pair[0] in [hand for hand, _ in part])]
                        for part in plain_parts(row)}
            table_of[row] = answers
            task = Task(4, table_of)
            for told in every:
                one = easing(task, row, told)
                # Who stands first alone may have any answer's value, so that all is eased.
                self.assertIs(one is not None, told in answers)
                seen[one is not None] += 1
                if one is not None:
                    self.assertEqual(list(one), sorted(plain_keys(hands)))
                    self.assertIs(plain_is_easing(task, row, told, one), True)
                    self.assertIs(is_easing(task, row, told, one), True)
            self.assertEqual(eased(task), task)
        self.assertTrue(min(seen.values()) > 5)

    def test_easings_of_any_value(self):
        row, told = ((0, 5), (1, 7)), ((0, 0), (1, 2))
        right = easing(EXAMPLE, row, told)
        for thing in ODD + [list(right.items()), tuple(right)]:
            self.assertIs(is_easing(EXAMPLE, row, told, thing), False)
        for key in right:
            self.assertIs(is_easing(EXAMPLE, row, told, {one: right[one] for one in right if one != key}), False)
            for put in PUT_IN:
                self.assertIs(is_easing(EXAMPLE, row, told, {**right, key: put}), kinds(put) == kinds(right[key]))
            left = {one: right[one] for one in right if one != key}
            for put in (None, True, 0, 7, "0", (), (0,), (key[0], (2,)), (key[0], ()), (bool(key[0]), key[1]), key[1],
                        (key[0], tuple(bool(hand) for hand in key[1])), key + (0,), (key[0] + 0.5, (3,)), (None, None)):
                if kinds(put) == kinds(key):
                    continue
                self.assertIs(is_easing(EXAMPLE, row, told, {**left, put: right[key]}), False)
                if put not in right:
                    self.assertIs(is_easing(EXAMPLE, row, told, {**right, put: 0}), False)
        self.assertIs(is_easing(EXAMPLE, row, told, dict(reversed(list(right.items())))), True)
        alone = Task(1, {((0, 0),): [((0, 1),)]})
        for thing, let in (({(0, (0,)): 1}, True), ({(0, (0,)): True}, False), ({(False, (0,)): 1}, False),
                           ({(0, (False,)): 1}, False), ({(0, (0,)): 1.0}, False), ({(0, (0,)): 2}, False), ({}, False)):
            self.assertIs(is_easing(alone, ((0, 0),), ((0, 1),), thing), let)
        self.assertIs(is_easing(alone, ((0, 0),), ((0, 2),), {(0, (0,)): 2}), False)

    def test_led_back(self):
        chance = random.Random(24)
        found = {}
        while len(found) < 3 or min(found.values()) < 25:
            rounds = chance.randint(1, 3)
            task = some_task(chance, chance.randint(1, 3 if rounds < 3 else 2), chance.randint(1, 2), 2)
            try:
                one = table(task, rounds)
                other = eased(task)
            except TooMany:
                continue
            if one is None:
                continue
            found[rounds] = found.get(rounds, 0) + 1
            told = self.same(led_back, "task rounds table", task, rounds, one)
            self.assertEqual(list(told), sorted(plain_corners(task, rounds - 1)))
            for hand, view in told:
                self.assertEqual(told[hand, view], one[hand, ((hand, view),)])
            self.assertIs(plain_is_table(other, rounds - 1, told), True)

    def test_needed(self):
        chance = random.Random(25)
        found = {}
        while len(found) < 4 or min(found.values()) < 5:
            size = chance.randint(2, 7)
            task = line_task(chance, size)
            told = self.same(needed, "task", task)
            found[told] = found.get(told, 0) + 1
            self.assertEqual(told, least(task))
            if found[told] > 30:
                continue
            times, other = 0, task
            while table(other, 0) is None and eased(other) != other:
                other, times = eased(other), times + 1
            self.assertEqual(told, times if table(other, 0) is not None else None)
            for rounds in range(4):
                self.assertIs(lines_many(task, rounds) == 0, told is None or rounds < told)
        for task in (agreement(2, (0, 1)), agreement(3, (0, 1)), TORN):
            self.assertIsNone(needed(task))
        self.assertEqual([needed(near(2, top)) for top in range(6)], [0, 0, 1, 1, 2, 2])
        self.assertEqual(needed(few(3, (0, 1), 2)), 0)

    def test_needed_is_a_lower_bound_from_three_hands_on(self):
        chance = random.Random(26)
        seen = {}
        while len(seen) < 3 or min(seen.values()) < 6:
            task = few_answers(chance, some_task(chance, 3, chance.randint(1, 2), 2))
            try:
                told = needed(task)
            except TooMany:
                continue
            seen[told] = seen.get(told, 0) + 1
            if seen[told] > 30:
                continue
            for rounds in range(2):
                try:
                    one = table(task, rounds)
                except TooMany:
                    continue
                if told is None or rounds < told:
                    self.assertIsNone(one)

    def test_wrong_parameters(self):
        both = ((0, 5), (1, 7))
        no_told = NO_ROWS + [((0, 0),), ((0, 0), (2, 2)), ((0, 0), (1, 2), (2, 0))]
        inputs = (BadInput, NO_ROWS + [((0, 6),), ((0, 5), (2, 7))])
        self.wrong(easing, [EXAMPLE, both, ((0, 0), (1, 2))], (BadTask, NO_TASKS), inputs, (BadRow, no_told))
        self.wrong(is_easing, [EXAMPLE, both, ((0, 0), (1, 2)), None], (BadTask, NO_TASKS), inputs, (BadRow, no_told),
                   (None, []))
        self.wrong(eased, [EXAMPLE], (BadTask, NO_TASKS))
        self.wrong(needed, [EXAMPLE], (BadTask, NO_TASKS))
        self.wrong(led_back, [EXAMPLE, 1, ONLY], (BadTask, NO_TASKS), (BadRounds, NO_TASK_ROUNDS + [0]),
                   (NoTable, [None, {}, (), {**ONLY, (0, ((0, 5),)): False}, {**ONLY, (1, ((1, 7),)): 3}]))
        self.assertEqual(self.told(TooMany, led_back, WIDE, 2, None).most, 6000)
        self.told(BadRounds, led_back, WIDE, 0, None)
        told = led_back(WIDE, 1, {corner: 1 for corner in plain_corners(WIDE, 1)})
        self.assertIs(is_table(WIDE, 0, told), True)

    def test_too_many(self):
        # So many values of each hand, and whether all products to the power 2 ** (n - 1) - 1 are at most 4096.
        for counts, let in (((4097,), True), ((64, 64), True), ((64, 65), False), ((1, 4096), True), ((1, 4097), False),
                            ((16, 1, 1), True), ((17, 1, 1), False), ((4, 4, 1), True), ((2, 3, 3), False),
                            ((3, 1, 1, 1), True), ((4, 1, 1, 1), False), ((2, 2, 1, 1), False)):
            row = tuple((hand, 0) for hand in range(len(counts)))
            answers = [tuple((hand, value if value < count else 0) for hand, count in enumerate(counts))
                       for value in range(max(counts))]
            table_of = {part: [tuple((hand, 0) for hand, _ in part)] for part in plain_parts(row)}
            table_of[row] = answers
            # The limit is that of all inputs, whatever row is asked for.
            table_of.setdefault(((0, 1),), [((0, 0),)])
            task = Task(len(counts), table_of)
            other = ((0, 1),)
            calls = ((easing, (task, other, ((0, 0),))), (is_easing, (task, other, ((0, 0),), None)), (eased, (task,)),
                     (needed, (task,)))
            for called, told in calls:
                if let and (called is not needed or counts != (4097,)):
                    called(*told)
                else:
                    self.assertEqual(self.told(TooMany, called, *told).most, 4096)
            if not let:
                self.told(BadRow, easing, task, other, ((1, 0),))
                self.told(BadInput, is_easing, task, ((0, 2),), None, None)
        # The choices of all corners for 0 rounds.
        for count in (12, 13):
            task = Task(1, {((0, value),): [((0, 0),), ((0, 1),)] for value in range(count)})
            if count == 12:
                self.assertEqual(needed(task), 0)
            else:
                self.assertEqual(self.told(TooMany, needed, task).most, 4096)
            self.assertEqual(eased(task), task)

    def test_large(self):
        begun = time.monotonic()
        long = {((0, 0),): [((0, 0),)], ((1, 0),): [((1, 63),)]}
        long[(0, 0), (1, 0)] = ([((0, value), (1, value)) for value in range(64)]
                                + [((0, value + 1), (1, value)) for value in range(63)])
        task = Task(2, long)
        # A walk of 127 ties.
        self.assertEqual(needed(task), 5)
        self.assertEqual(len(eased(task).answers(((0, 0), (1, 0)))), 64 * 4 - 4)
        self.assertEqual(is_easing(task, ((0, 0), (1, 0)), ((0, 5), (1, 6)),
                                   easing(task, ((0, 0), (1, 0)), ((0, 5), (1, 6)))), True)
        every = Task(2, {**long, ((0, 0), (1, 0)): list(itertools.product([(0, value) for value in range(64)],
                                                                         [(1, value) for value in range(64)]))})
        self.assertEqual(eased(every), every)
        self.assertEqual(needed(every), 0)
        chance = random.Random(27)
        row = ((0, 0), (1, 0), (2, 0))
        answers = [tuple(enumerate(values)) for values in itertools.product(range(4), range(2), range(2))]
        for count in (3, 8, 13):
            task = Task(3, {part: [tuple((hand, 0) for hand, _ in part)] for part in plain_parts(row)[:-1]}
                        | {row: chance.sample(answers, count)})
            self.assertTrue(set(task.answers(row)) <= set(eased(task).answers(row)))
        self.assertLess(time.monotonic() - begun, 100)


def line_task(chance, size):
    """A task of two hands whose both answer along a row of ties, or not at all joined ones."""
    ties = [((0, at // 2), (1, at // 2)) if at % 2 == 0 else ((0, at // 2 + 1), (1, at // 2)) for at in range(size)]
    ties = [tie for tie in ties if chance.random() < 0.95] or ties[:1]
    places = sorted({place for tie in ties for place in tie})
    ends = {hand: [place for place in places if place[0] == hand] for hand in (0, 1)}
    table_of = {}
    for hand in (0, 1):
        for value in range(chance.randint(1, 2)):
            some = chance.sample(ends[hand], chance.randint(1, min(2, len(ends[hand]))))
            table_of[((hand, value),)] = [(place,) for place in some]
    for one in [row for row in table_of if row[0][0] == 0]:
        for other in [row for row in table_of if row[0][0] == 1]:
            table_of[one + other] = ties
    return Task(2, table_of)


if __name__ == "__main__":
    unittest.main()
