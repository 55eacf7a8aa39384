"""[13], [14]: new tasks from old ones."""

import itertools
import random
import time
import unittest

from tests.helping import NO_HANDS, NO_NUMBERS, NO_TASKS, Case, plain_parts
from waitless.changing import both, renamed, renaming_to, restricted, trimmed
from waitless.errors import BadHands, BadPair, BadRenaming, BadTask
from waitless.making import agreement, few, near, on_web
from waitless.tasks import Task

SMALL = Task(3, {((0, 5),): [((0, 1),), ((0, 2),)], ((2, 5),): [((2, 5),)],
                 ((0, 5), (2, 5)): [((0, 1), (2, 5)), ((0, 3), (2, 2))]})


def some_task(chance, many, values, answers):
    """A task of some inputs, with all their parts, and some answers."""
    table = {}
    for _ in range(chance.randint(1, 3)):
        hands = sorted(chance.sample(range(many), chance.randint(1, many)))
        for row in plain_parts(tuple((hand, chance.choice(values)) for hand in hands)):
            told = list(itertools.product(answers, repeat=len(row)))
            rows = [tuple(zip([hand for hand, _ in row], one)) for one in told]
            table.setdefault(row, chance.sample(rows, chance.randint(1, min(4, len(rows)))))
    return Task(many, table)


def values_of(task):
    """The values in inputs, and those in answers, ascending."""
    table = task.table()
    return (sorted({value for row in table for _, value in row}),
            sorted({value for row in table for answer in table[row] for _, value in answer}))


def plain_renamed(task, hands, inputs, answers):
    """What renaming makes of a task."""
    def turned(row, values):
        return tuple(sorted((hands[hand], values[value]) for hand, value in row))
    return Task(task.many, {turned(row, inputs): [turned(answer, answers) for answer in told]
                            for row, told in task.table().items()})


def plain_can_rename(one, other):
    """Whether some renaming makes other of one, by trying all."""
    if one.many != other.many:
        return False
    (x, y), (x_to, y_to) = values_of(one), values_of(other)
    if len(x) != len(x_to) or len(y) != len(y_to):
        return False
    return any(plain_renamed(one, hands, dict(zip(x, inputs)), dict(zip(y, answers))) == other
               for hands in itertools.permutations(range(one.many))
               for inputs in itertools.permutations(x_to) for answers in itertools.permutations(y_to))


def shuffled(task, chance, top=10 ** 9 - 1):
    """task renamed by chance."""
    inputs, answers = values_of(task)
    hands = list(range(task.many))
    chance.shuffle(hands)
    return renamed(task, (tuple(hands), dict(zip(inputs, chance.sample(range(top + 1), len(inputs)))),
                          dict(zip(answers, chance.sample(range(top + 1), len(answers))))))


def plain_trimmed(task):
    """What trimming leaves, by leaving out one answer after another; None if some input has none left."""
    left = task.table()
    while True:
        out = [(row, answer) for row in left for answer in left[row] for other in left
               if set(row) < set(other) and not any(set(answer) <= set(one) for one in left[other])]
        if not out:
            return Task(task.many, left) if all(left.values()) else None
        left[out[-1][0]].remove(out[-1][1])


class Restricted(Case):
    def test_restricted(self):
        self.assertEqual(self.same(restricted, "task hands", SMALL, (2,)), Task(3, {((2, 5),): [((2, 5),)]}))
        self.assertEqual(restricted(SMALL, (0, 2)), SMALL)
        for hands in ((0,), (1,), (0, 2), (0, 1, 2), (1, 2)):
            task = few(3, (0, 1, 2), 2)
            plain = {row: told for row, told in task.table().items() if {hand for hand, _ in row} <= set(hands)}
            self.assertEqual(restricted(task, hands), Task(3, plain))
        self.wrong(restricted, [SMALL, (0,)], (BadTask, NO_TASKS), (BadHands, NO_HANDS + [(1,), (0, 1), (0, 1, 2), (3,)]))


class Both(Case):
    def test_both(self):
        one = Task(2, {((0, 1),): [((0, 2),)], ((1, 7),): [((1, 7),)], ((0, 1), (1, 7)): [((0, 2), (1, 7))]})
        other = Task(2, {((0, 3),): [((0, 4),), ((0, 5),)]})
        self.assertEqual(self.same(both, "one other", one, other).table(), {((0, 1003),): [((0, 2004),), ((0, 2005),)]})
        self.assertEqual(both(other, one).table(), {((0, 3001),): [((0, 4002),), ((0, 5002),)]})

    def test_against_plain(self):
        chance = random.Random(5)
        for _ in range(60):
            many = chance.randint(1, 3)
            one = some_task(chance, many, [0, 1, 999], [0, 5, 999])
            other = some_task(chance, many, [0, 3], [0, 5, 2])
            table = {}
            for (row, told), (match, also) in itertools.product(one.table().items(), other.table().items()):
                if [hand for hand, _ in row] == [hand for hand, _ in match]:
                    def pair(x, y):
                        return tuple((x[k][0], 1000 * x[k][1] + y[k][1]) for k in range(len(x)))
                    table[pair(row, match)] = [pair(x, y) for x in told for y in also]
            if table:
                self.assertEqual(both(one, other), Task(many, table))
            else:
                self.told(BadPair, both, one, other)

    def test_wrong_parameters(self):
        self.wrong(both, [SMALL, SMALL], (BadTask, NO_TASKS), (BadTask, NO_TASKS))
        small = Task(2, {((0, 999),): [((0, 999),)]})
        self.assertEqual(both(small, small).inputs(), [((0, 999999),)])
        for other in (Task(3, {((0, 0),): [((0, 0),)]}), Task(2, {((1, 0),): [((1, 0),)]}),
                      Task(2, {((0, 1000),): [((0, 0),)]}), Task(2, {((0, 0),): [((0, 1000),)]})):
            self.told(BadPair, both, small, other)
            self.told(BadPair, both, other, small)


class Renaming(Case):
    right = ((2, 0, 1), {5: 9}, {1: 0, 2: 999999999, 3: 7, 5: 5, 8: 1})

    def test_renamed(self):
        found = self.same(renamed, "task renaming", SMALL, self.right)
        self.assertEqual(found.table(), {
            ((1, 9),): [((1, 5),)], ((2, 9),): [((2, 0),), ((2, 999999999),)],
            ((1, 9), (2, 9)): [((1, 5), (2, 0)), ((1, 999999999), (2, 7))]})

    def test_wrong_parameters(self):
        hands, inputs, answers = self.right
        wrong = [None, True, 0, (), [], list(self.right), self.right[:2], self.right + ({},),
                 ([2, 0, 1], inputs, answers), ((0, 1), inputs, answers), ((0, 1, 2, 3), inputs, answers),
                 ((), inputs, answers), ((0, 0, 1), inputs, answers), ((0, True, 2), inputs, answers),
                 ((1, 2, 3), inputs, answers), ((0, 1, "2"), inputs, answers), ((0, 1, 2, 3, 4), inputs, answers),
                 (hands, [5], answers), (hands, {}, answers), (hands, {4: 5}, answers), (hands, {5: True}, answers),
                 (hands, {5: -1}, answers), (hands, {5: 10 ** 9}, answers), (hands, {5: 1, 6: 1}, answers),
                 (hands, {5: 1, 10 ** 9: 2}, answers), (hands, {5: 1, -1: 2}, answers), (hands, {5: "1"}, answers),
                 (hands, inputs, {1: 0, 2: 1}), (hands, inputs, {1: 0, 2: 1, 3: 1, 5: 5}), (hands, inputs, None),
                 (hands, {5: []}, answers), (hands, {True: 1, 5: 5}, answers), (hands, {5: 1, "6": 2}, answers)]
        self.wrong(renamed, [SMALL, self.right], (BadTask, NO_TASKS), (BadRenaming, wrong))
        self.wrong(renaming_to, [SMALL, SMALL], (BadTask, NO_TASKS), (BadTask, NO_TASKS))
        task = agreement(2, (0, 1))
        self.assertEqual(renamed(task, ((1, 0), {0: 0, 1: 1, 7: 7}, {1: 1, 0: 0})), task)
        for inputs, answers in (({0: 0}, {0: 0, 1: 1}), ({1: 0, 2: 1}, {0: 0, 1: 1}), ({0: 0, 1: 1}, {1: 1}),
                                ({0: 0, 1: 1}, {0: 0, 2: 2})):
            self.told(BadRenaming, renamed, task, ((0, 1), inputs, answers))

    def check(self, one, other, can):
        found = self.same(renaming_to, "one other", one, other)
        if not can:
            self.assertIsNone(found)
            return
        self.assertEqual(renamed(one, found), other)
        self.assertEqual((list(found[1]), list(found[2])), values_of(one))
        found[1].clear()
        self.assertNotEqual(found, renaming_to(one, other))

    def test_against_plain(self):
        chance = random.Random(7)
        found = []
        for _ in range(250):
            many = chance.randint(1, 3)
            one = some_task(chance, many, [0, 1, 2], [0, 1, 2])
            other = chance.choice([one, some_task(chance, many, [0, 1, 2], [0, 1, 2])])
            other = shuffled(other, chance, 9)
            can = plain_can_rename(one, other)
            self.check(one, other, can)
            found.append(can)
        self.assertTrue(30 < sum(found) < 220)

    def test_few_answers_against_plain(self):
        # Tasks that are alike in many ways: inputs of two hands as the ties of webs.
        chance = random.Random(8)
        for _ in range(150):
            tasks = []
            for _ in range(2):
                table = {}
                for tie in chance.sample(list(itertools.product(range(3), range(3))), 4):
                    for row in plain_parts(tuple(enumerate(tie))):
                        table[row] = [tuple((hand, 0) for hand, _ in row)]
                tasks.append(Task(2, table))
            self.check(tasks[0], tasks[1], plain_can_rename(*tasks))

    def test_other_many_or_none(self):
        self.assertIsNone(renaming_to(SMALL, Task(4, SMALL.table())))
        self.check(Task(4, {((0, 1),): [((0, 1),)]}), Task(4, {((3, 7),): [((3, 8),)]}), True)
        self.check(agreement(2, (0, 1)), few(2, (0, 1), 2), False)

    def test_answers_that_stand_unlike_often(self):
        # The answer 2 stands once in both tasks, the others 5 and 2 times, or 4 and 3 times.
        tasks = [Task(1, {((0, at),): [((0, int(answer)),) for answer in told] for at, told in enumerate(every)})
                 for every in (("01", "01", "02", "0", "0"), ("01", "01", "02", "0", "1"))]
        for one in tasks:
            for other in tasks:
                self.check(one, other, one == other)

    def test_rings(self):
        def rings(*lengths):
            table, first = {}, 0
            for length in lengths:
                for at in range(length):
                    for row in plain_parts(((0, first + at), (1, first + (at + 1) % length))):
                        table[row] = [tuple((hand, 0) for hand, _ in row)]
                first += length
            return Task(2, table)
        chance = random.Random(9)
        begun = time.monotonic()
        for one, other in (((3, 3), (6,)), ((4, 8), (6, 6)), ((6, 6) + (12,) * 9, (12,) * 10), ((5,) * 20, (5,) * 20),
                           ((3,) * 20, (3,) * 18 + (6,)), ((4, 5, 6), (6, 4, 5)), ((300,), (300,)), ((300,), (150, 150))):
            self.check(rings(*one), shuffled(rings(*other), chance), sorted(one) == sorted(other))
        self.assertLess(time.monotonic() - begun, 60)

    def test_webs_that_are_alike_in_most_ways(self):
        # Two webs of sixteen places with six ties each, any two places alike seen from near by: only by taking two
        # places or more together they can be told apart.
        def web(ties, places=16, first=0):
            table = {}
            for one, other in itertools.product(range(places), repeat=2):
                if ties(one, other):
                    for row in plain_parts(((0, first + one), (1, first + other))):
                        table[row] = [tuple((hand, 0) for hand, _ in row)]
            return table

        def rook(one, other):
            return one != other and (one // 4 == other // 4 or one % 4 == other % 4)

        def turn(one, other):
            far = ((one // 4 - other // 4) % 4, (one % 4 - other % 4) % 4)
            return far in ((0, 1), (0, 3), (1, 0), (3, 0), (1, 1), (3, 3))
        chance = random.Random(12)
        begun = time.monotonic()
        webs = {"rook": web(rook), "turn": web(turn), "two": {**web(rook), **web(turn, first=16)},
                "rooks": {**web(rook), **web(rook, first=16)}, "turns": {**web(turn), **web(turn, first=16)}}
        for one in webs:
            for other in webs:
                self.check(Task(2, webs[one]), shuffled(Task(2, webs[other]), chance), one == other)
        self.assertLess(time.monotonic() - begun, 60)

    def test_large(self):
        chance = random.Random(10)
        nine = tuple(range(9))
        begun = time.monotonic()
        for task in (agreement(3, nine), few(3, nine, 2), near(3, 8), few(4, (1, 2, 3, 4), 3),
                     on_web(3, 9, ((0, 1), (1, 2), (4, 8))),
                     Task(1, {((0, value),): [((0, value),)] for value in range(1000)}),
                     Task(1, {((0, value),): [((0, one),) for one in range(20)] for value in range(1000)}),
                     Task(1, {((0, value),): [((0, one),) for one in range(60) if one != value] for value in range(60)})):
            self.check(task, shuffled(task, chance), True)
            table = task.table()
            last = task.inputs()[-1]
            if len(table[last]) > 1:
                table[last] = table[last][1:]
                self.check(Task(task.many, table), shuffled(task, chance), False)
        self.assertLess(time.monotonic() - begun, 120)


class Trimmed(Case):
    def test_example(self):
        task = Task(2, {((0, 0),): [((0, 1),), ((0, 2),)], ((1, 5),): [((1, 5),)],
                        ((0, 0), (1, 5)): [((0, 2), (1, 5))]})
        found = self.same(trimmed, "task", task)
        self.assertEqual(found.answers(((0, 0),)), [((0, 2),)])
        self.assertEqual(found, Task(2, {**task.table(), ((0, 0),): [((0, 2),)]}))

    def test_against_plain(self):
        chance = random.Random(11)
        nones = 0
        for _ in range(400):
            task = some_task(chance, chance.randint(1, 4), [0, 1], [0, 1])
            plain = plain_trimmed(task)
            nones += plain is None
            found = self.same(trimmed, "task", task)
            if plain is None:
                self.assertIsNone(found)
            else:
                self.assertEqual(found, plain)
                self.assertEqual(trimmed(found), found)
        self.assertTrue(20 < nones < 380)
        self.wrong(trimmed, [SMALL], (BadTask, NO_TASKS))

    def test_known_and_large(self):
        for task in (agreement(3, (0, 1, 2)), near(2, 5), few(3, tuple(range(9)), 3), near(3, 8)):
            self.assertEqual(trimmed(task), task)
        task = few(3, tuple(range(9)), 3)
        table = task.table()
        table[task.inputs()[-1]] = [((0, 8), (1, 8), (2, 7))]
        self.assertIsNone(trimmed(Task(3, table)))


if __name__ == "__main__":
    unittest.main()
