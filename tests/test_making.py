"""[12]: tasks whose inputs are all rows with certain values."""

import itertools
import unittest

from tests.helping import NO_NUMBERS, Case, groups
from waitless.errors import BadMany, BadMost, BadPlaces, BadTies, BadTop, BadValues, TooMany
from waitless.making import agreement, few, near, on_web
from waitless.tasks import Task

NO_MANY = NO_NUMBERS + [0, 5, -1]
NO_VALUES = [None, True, 0, (), [0], [0, 1], (1, 0), (0, 0), (True,), (0, True), (-1,), (10 ** 9,), ("0",), (0.0,),
             ((0,),), tuple(range(10)), {0: 1}, "01", range(3)]


def plain(many, values, let):
    """The task of all rows, whose answers over the values are those that let(inputs, answers) holds for."""
    table = {}
    for hands in groups(tuple(range(many))):
        for inputs in itertools.product(values, repeat=len(hands)):
            table[tuple(zip(hands, inputs))] = [tuple(zip(hands, answers)) for answers in
                                                itertools.product(values, repeat=len(hands))
                                                if let(set(inputs), set(answers))]
    return Task(many, table)


def webs(places):
    """All webs of so many places."""
    pairs = list(itertools.combinations(range(places), 2))
    return [ties for size in range(len(pairs) + 1) for ties in itertools.combinations(pairs, size)]


class Making(Case):
    def test_agreement(self):
        for many in (1, 2, 3, 4):
            for values in ((7,), (0, 1), (3, 5, 999999999)):
                made = self.same(agreement, "many values", many, values)
                self.assertEqual(made, plain(many, values, lambda x, y: len(y) == 1 and y <= x))
        self.assertEqual(agreement(2, (0, 1)).answers(((0, 1), (1, 0))), [((0, 0), (1, 0)), ((0, 1), (1, 1))])

    def test_few(self):
        for many in (1, 2, 3):
            for values in ((7,), (0, 1), (3, 5, 9), (0, 1, 2, 3)):
                for most in (1, 2, 3, 4):
                    made = self.same(few, "many values most", many, values, most)
                    self.assertEqual(made, plain(many, values, lambda x, y: len(y) <= most and y <= x))
        self.assertEqual(few(3, (0, 1), 1), agreement(3, (0, 1)))

    def test_near(self):
        for many in (1, 2, 3):
            for top in range(5):
                made = self.same(near, "many top", many, top)
                self.assertEqual(made, plain(many, range(top + 1), lambda x, y: (
                    max(y) - min(y) <= 1 and min(x) <= min(y) and max(y) <= max(x))))
        self.assertEqual(len(near(2, 9).inputs()), 120)

    def test_on_web(self):
        for many, places in ((1, 3), (2, 1), (2, 3), (2, 4), (3, 3)):
            for ties in webs(places):
                def close(x):
                    return len(x) == 1 or tuple(sorted(x)) in ties
                made = self.same(on_web, "many places ties", many, places, ties)
                self.assertEqual(made, plain(many, range(places), lambda x, y: (
                    close(y) and (y <= x or not close(x)))))

    def test_wrong_parameters(self):
        self.wrong(agreement, [2, (0, 1)], (BadMany, NO_MANY), (BadValues, NO_VALUES))
        self.wrong(few, [2, (0, 1), 2], (BadMany, NO_MANY), (BadValues, NO_VALUES), (BadMost, NO_NUMBERS + [0, 5]))
        self.wrong(near, [2, 3], (BadMany, NO_MANY), (BadTop, NO_NUMBERS + [-1, 10]))
        no_ties = [None, True, 0, [], [(0, 1)], ((0, 0),), ((1, 0),), ((0, 3),), ((-1, 0),), ((0, 1), (0, 1)),
                   ((0, 2), (0, 1)), ((0, 1, 2),), ((0,),), ([0, 1],), ((False, 1),), ((0, True),), (0, 1), "01",
                   ((0, "1"),), ((None, 1),)]
        self.wrong(on_web, [2, 3, ((0, 1),)], (BadMany, NO_MANY), (BadPlaces, NO_NUMBERS + [0, 10, -1]),
                   (BadTies, no_ties))

    def test_too_many_is_told_last(self):
        for many, values in ((4, 5), (4, 9)):
            told = tuple(range(values))
            self.assertEqual(self.told(TooMany, agreement, many, told).most, 1000)
            self.assertEqual(self.told(TooMany, few, many, told, 2).most, 1000)
            self.assertEqual(self.told(TooMany, near, many, values - 1).most, 1000)
            self.assertEqual(self.told(TooMany, on_web, many, values, ()).most, 1000)
            self.told(BadMost, few, many, told, 5)
            self.told(BadTies, on_web, many, values, ((0, 9),))
        self.assertEqual(self.told(TooMany, near, 3, 9).most, 1000)

    def test_as_many_as_there_may_be(self):
        nine = tuple(range(9))
        for made in (agreement(3, nine), few(3, nine, 2), few(3, nine, 3), near(3, 8), on_web(3, 9, ((0, 1), (4, 8))),
                     on_web(3, 9, tuple(itertools.combinations(range(9), 2)))):
            self.assertEqual(len(made.inputs()), 999)
        self.assertEqual(len(few(4, (1, 2, 3, 4), 4).inputs()), 624)
        self.assertEqual(len(near(4, 3).inputs()), 624)


if __name__ == "__main__":
    unittest.main()
