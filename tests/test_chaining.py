"""[52]: one task behind another."""

import itertools
import random
import time
import unittest

from tests.helping import NO_NUMBERS, NO_TASKS, Case, plain_courses, plain_end, plain_parts
from tests.test_tables import EXAMPLE, NO_TASK_ROUNDS, ONLY, WIDE, plain_choices, plain_corners, plain_is_table, \
    some_task
from waitless.chaining import chained, chained_table
from waitless.errors import BadChain, BadRounds, BadTask, NoTable, TooMany
from waitless.making import agreement, few
from waitless.refuting import table
from waitless.tables import longer
from waitless.tasks import Task


def task_over(chance, many, values, fewest):
    """A task whose inputs are all rows with these values, with some answers over 0 and 1."""
    inputs = {}
    for size in range(1, many + 1):
        for hands in itertools.combinations(range(many), size):
            for told in itertools.product(values, repeat=size):
                every = [tuple(zip(hands, answers)) for answers in itertools.product((0, 1), repeat=size)]
                inputs[tuple(zip(hands, told))] = chance.sample(every, chance.randint(min(fewest, len(every)), len(every)))
    return Task(many, inputs)


def plain_chained(task, other):
    """The answers to answers, row by row."""
    return {row: sorted({answer for between in task.answers(row) for answer in other.answers(between)})
            for row in task.inputs()}


# What EXAMPLE answers, copied or raised by one.
BEHIND = Task(2, {row: [row, tuple((hand, value + 1) for hand, value in row)]
                  for values in itertools.product(range(4), repeat=2)
                  for row in plain_parts(tuple(enumerate(values)))})
COPY = {(hand, value): value for hand in (0, 1) for value in range(4)}


class Chaining(Case):
    def test_example_by_hand(self):
        found = self.same(chained, "task other", EXAMPLE, BEHIND)
        self.assertEqual(found, Task(2, {
            ((0, 5),): [((0, 0),), ((0, 1),)], ((1, 7),): [((1, 2),), ((1, 3),), ((1, 4),)],
            ((0, 5), (1, 7)): [((0, 0), (1, 1)), ((0, 1), (1, 2)), ((0, 1), (1, 1)), ((0, 2), (1, 2)),
                               ((0, 2), (1, 3))]}))
        raised = {corner: value + 1 for corner, value in COPY.items()}
        told = self.same(chained_table, "task rounds one other more two", EXAMPLE, 1, ONLY, BEHIND, 0, raised)
        self.assertEqual(told, {corner: value + 1 for corner, value in ONLY.items()})
        self.assertEqual(chained_table(EXAMPLE, 1, ONLY, BEHIND, 0, COPY), ONLY)
        told.clear()
        self.assertEqual(len(chained_table(EXAMPLE, 1, ONLY, BEHIND, 0, raised)), 4)

    def test_chained_tasks(self):
        chance = random.Random(4)
        for _ in range(80):
            many = chance.randint(1, 3)
            task = some_task(chance, many, chance.randint(1, 3), 2)
            other = task_over(chance, many, (0, 1), 1)
            found = chained(task, other)
            self.assertEqual(found.many, many)
            self.assertEqual(found.table(), plain_chained(task, other))

    def test_chained_tables(self):
        chance = random.Random(5)
        found = {}
        while len(found) < 10 or min(found.values()) < 4:
            many = chance.randint(1, 3)
            rounds, more = chance.choice([(one, two) for one in range(4) for two in range(4 - one)])
            if many == 3 and rounds + more > 2:
                continue
            task = some_task(chance, many, chance.randint(1, 2), 2)
            other = task_over(chance, many, (0, 1), 2)
            one, two = some_table(task, rounds, chance), some_table(other, more, chance)
            if one is None or two is None:
                continue
            found[rounds, more] = found.get((rounds, more), 0) + 1
            self.check(task, rounds, one, other, more, two)

    def check(self, task, rounds, one, other, more, two):
        told = self.same(chained_table, "task rounds one other more two", task, rounds, one, other, more, two)
        whole = chained(task, other)
        self.assertEqual(list(told), sorted(plain_corners(whole, rounds + more)))
        self.assertIs(plain_is_table(whole, rounds + more, told), True)
        for row in task.inputs():
            hands = tuple(hand for hand, _ in row)
            for course in plain_courses(hands, rounds + more)[:60]:
                between = tuple((hand, one[hand, view]) for hand, view in plain_end(row, course[:rounds]).items())
                last = plain_end(between, course[rounds:])
                for hand, view in plain_end(row, course).items():
                    self.assertEqual(told[hand, view], two[hand, last[hand]])

    def test_wrong_parameters(self):
        no_chains = [Task(3, {**BEHIND.table(), ((2, 0),): [((2, 0),)]}), EXAMPLE, agreement(2, (0, 1)),
                     Task(2, {row: answers for row, answers in BEHIND.table().items() if (1, 2) not in row})]
        self.wrong(chained, [EXAMPLE, BEHIND], (BadTask, NO_TASKS), (BadTask, NO_TASKS))
        no_tables = [None, True, (), {}, list(ONLY.items()), {**ONLY, (1, ((1, 7),)): 3}, {**ONLY, (0, ((0, 5),)): False}]
        self.wrong(chained_table, [EXAMPLE, 1, ONLY, BEHIND, 0, COPY], (BadTask, NO_TASKS),
                   (BadRounds, NO_TASK_ROUNDS), (NoTable, []), (BadTask, NO_TASKS),
                   (BadRounds, NO_NUMBERS + [-1, 3, 4]), (NoTable, [None, {}, {**COPY, (0, 0): 2}, {**COPY, (0, 0): False}]))
        for other in no_chains:
            self.told(BadChain, chained, EXAMPLE, other)
            for told in ((ONLY, other, 0, COPY), (None, other, None, None)):
                self.told(BadChain, chained_table, EXAMPLE, 1, *told)
            self.told(BadRounds, chained_table, EXAMPLE, 4, None, other, 0, None)
        # Behind the checks of rounds all others are told ahead of the tables, one ahead of two.
        for one in no_tables:
            self.told(NoTable, chained_table, EXAMPLE, 1, one, BEHIND, 0, COPY)
            self.told(NoTable, chained_table, EXAMPLE, 1, one, BEHIND, 0, None)
            self.told(BadTask, chained_table, EXAMPLE, 1, one, None, 0, COPY)
            self.told(BadRounds, chained_table, EXAMPLE, 1, one, BEHIND, 3, COPY)
        self.told(NoTable, chained_table, EXAMPLE, 0, ONLY, BEHIND, 0, COPY)
        self.told(NoTable, chained_table, EXAMPLE, 1, ONLY, BEHIND, 1, COPY)

    def test_rounds_of_both(self):
        only = agreement(1, (0,))
        for rounds in range(4):
            one = table(only, rounds)
            for more in range(5):
                if rounds + more <= 3:
                    self.assertEqual(len(chained_table(only, rounds, one, only, more, table(only, more))), 1)
                else:
                    self.told(BadRounds, chained_table, only, rounds, one, only, more, None)

    def test_too_many(self):
        copy = few(4, (1,), 1)
        ones = {(hand, 1): 1 for hand in range(4)}
        # 75 facets of the greatest row for one round, 5625 for two: with those of the others more than 6000.
        wide = {row: answers for row, answers in copy.table().items()}
        for rounds, more in ((1, 1), (2, 0), (0, 2)):
            self.assertEqual(self.told(TooMany, chained_table, Task(4, wide), rounds, None, copy, more, None).most, 6000)
        self.told(BadRounds, chained_table, copy, 1, None, copy, 3, None)
        self.told(BadChain, chained_table, copy, 1, None, EXAMPLE, 1, None)
        one = longer(copy, 0, ones)
        self.assertEqual(set(chained_table(copy, 1, one, copy, 0, ones).values()), {1})
        # The other one has more inputs, so that it alone has too many facets.
        table_of = {row: [row] for value in range(240) for row in plain_parts(((0, 0), (1, value)))}
        other = Task(2, table_of)
        task = Task(2, {row: [row] for row in plain_parts(((0, 0), (1, 0)))})
        self.assertEqual(self.told(TooMany, chained_table, task, 0, None, other, 3, None).most, 6000)
        self.told(NoTable, chained_table, task, 0, None, other, 2, None)
        begun = time.monotonic()
        zeros = {(hand, value): value for hand, value in plain_corners(other, 0)}
        two = longer(other, 1, longer(other, 0, zeros))
        self.assertEqual(len(chained_table(task, 1, longer(task, 0, {(0, 0): 0, (1, 0): 0}), other, 2, two)), 28)
        self.assertLess(time.monotonic() - begun, 60)


def some_table(task, rounds, chance):
    """A table of task, with numbers taken in some sequence; None if some tries find none."""
    told = plain_choices(task, rounds)
    for _ in range(60):
        one = {corner: chance.choice(values) for corner, values in told.items()}
        if plain_is_table(task, rounds, one):
            return one
    ways = 1
    for values in told.values():
        ways *= len(values)
    return table(task, rounds) if ways <= 4096 else None


if __name__ == "__main__":
    unittest.main()
