"""[30], [31]: cells and weavings."""

import itertools
import random
import time
import unittest

from tests.helping import (NO_CELLS, NO_HAND, NO_HANDS, NO_NUMBERS, NO_ROUNDS, NO_ROWS, ODD, Case, groups, plain_blocks,
                           plain_courses, plain_end, plain_sights)
from waitless.cells import Cells
from waitless.courses import is_course
from waitless.errors import BadCells, BadCourse, BadHand, BadHands, BadMoment, BadRounds, BadRow, BadWeaving, TooMany
from waitless.views import are_together
from waitless.weavings import course_of_run, weaving_of, when

ROW = ((0, 5), (1, 8))
FULL = ((0, 4), (1, 7), (2, 4), (3, 999999999))
NO_COURSES = [None, [], (((0,),),), (((0, 1), (0,)),), (((0, True),),), (((0, 2),),), (((0, 1),),) * 41]


class PlainCells:
    """The cells, told by the words (a) to (c)."""

    def __init__(self, row, rounds):
        self.rounds, self.hands, self.many = rounds, [hand for hand, _ in row], len(row)
        self.memory = {}
        self.views = {hand: [value] for hand, value in row}
        self.levels = {hand: self.many + 1 for hand in self.hands}
        self.read = {hand: None for hand in self.hands}
        self.last = {hand: [] for hand in self.hands}
        self.done = []

    def step(self, hand):
        number = len(self.views[hand])
        if number > self.rounds:
            return None
        self.done.append(hand)
        if self.read[hand] is None:
            self.levels[hand] -= 1
            self.memory[number, hand] = (self.views[hand][-1], self.levels[hand])
            self.read[hand] = self.last[hand] = []
            return ("write", number, self.levels[hand])
        read = self.read[hand]
        whose = self.hands[len(read)]
        read.append(self.memory.get((number, whose)))
        told = ("read", number, whose, read[-1])
        if len(read) == self.many:
            counted = {other: pair for other, pair in zip(self.hands, read) if pair and pair[1] <= self.levels[hand]}
            if len(counted) == self.levels[hand]:
                self.views[hand].append(tuple((other, pair[0]) for other, pair in counted.items()))
                self.levels[hand] = self.many + 1
            self.read[hand] = None
        return told


def state(cells):
    """All that Cells tell."""
    hands = [hand for hand, _ in cells.row]
    return repr([cells.row, cells.rounds, cells.many, cells.weaving(), [
        [cells.ended(hand), cells.steps(hand), cells.found(hand), [cells.view(hand, at) for at in range(cells.rounds + 1)],
         [cells.level(hand, at) for at in range(1, cells.rounds + 1)]] for hand in hands]])


def plain_state(plain, row):
    """What Cells must tell."""
    return repr([row, plain.rounds, plain.many, tuple(plain.done), [
        [len(plain.views[hand]) - 1, plain.done.count(hand), plain.last[hand],
         (plain.views[hand] + [None] * 9)[:plain.rounds + 1],
         [plain.memory.get((at, hand), (0, None))[1] for at in range(1, plain.rounds + 1)]] for hand in plain.hands]])


def some_run(cells, chance, steps, stopping=0.0):
    """Steps by chance, in bursts; some hands stop for ever."""
    hands = [hand for hand, _ in cells.row]
    for _ in range(steps):
        if len(hands) > 1 and chance.random() < stopping:
            hands.remove(chance.choice(hands))
        cells.run((chance.choice(hands),) * chance.choice([1, 1, 2, 3, 8]))


class Steps(Case):
    def test_example(self):
        cells = Cells(ROW, 1)
        told = [cells.step(0) for _ in range(7)]
        self.assertEqual(told, [("write", 1, 2), ("read", 1, 0, (5, 2)), ("read", 1, 1, None), ("write", 1, 1),
                                ("read", 1, 0, (5, 1)), ("read", 1, 1, None), None])
        self.assertEqual((cells.view(0, 1), cells.steps(0), cells.ended(0)), (((0, 5),), 6, 1))
        self.assertEqual(cells.found(0), [(5, 1), None])
        self.assertEqual((cells.view(0, 0), cells.view(1, 0), cells.view(1, 1)), (5, 8, None))
        self.assertEqual((cells.level(0, 1), cells.level(1, 1), cells.found(1)), (1, None, []))
        self.assertEqual((cells.row, cells.rounds, cells.many), (ROW, 1, 2))

    def test_all_short_weavings(self):
        for row, rounds, length in ((ROW[1:], 2, 5), (ROW, 1, 9), (((0, 4), (2, 7), (3, 4)), 1, 6)):
            for weaving in itertools.product([hand for hand, _ in row], repeat=length):
                cells, plain = Cells(row, rounds), PlainCells(row, rounds)
                for hand in weaving:
                    self.assertEqual(cells.step(hand), plain.step(hand))
                self.assertEqual(state(cells), plain_state(plain, row))

    def test_by_chance(self):
        chance = random.Random(1)
        for _ in range(120):
            size = chance.randint(1, 4)
            row = tuple(sorted(chance.sample(FULL, size)))
            rounds = chance.randint(0, 6)
            cells, plain = Cells(row=row, rounds=rounds), PlainCells(row, rounds)
            for _ in range(chance.randint(0, 300)):
                hand = chance.choice(row)[0]
                for _ in range(chance.choice([1, 1, 5])):
                    self.assertEqual(cells.step(hand=hand), plain.step(hand))
            self.assertEqual(state(cells), plain_state(plain, row))
            again = Cells(row, rounds)
            self.assertIsNone(again.run(weaving=cells.weaving()))
            self.assertEqual(state(again), state(cells))

    def test_no_rounds(self):
        cells = Cells(ROW, 0)
        self.assertIsNone(cells.step(0))
        self.assertEqual((cells.view(0, 0), cells.ended(1), cells.weaving(), cells.steps(1)), (5, 0, (), 0))
        self.told(BadMoment, cells.level, 0, 0)
        self.told(BadMoment, cells.view, 0, 1)

    def test_wrong_parameters(self):
        self.wrong(Cells, [ROW, 2], (BadRow, NO_ROWS), (BadRounds, NO_ROUNDS))
        cells = Cells(((0, 5), (2, 8)), 2)
        cells.run((0, 2, 2))
        before = state(cells)
        no_hand = NO_HAND + [1, 3]
        for called in (cells.step, cells.ended, cells.steps, cells.found):
            self.wrong(called, [0], (BadHand, no_hand))
        self.wrong(cells.view, [0, 1], (BadHand, no_hand), (BadMoment, NO_NUMBERS + [-1, 3]))
        self.wrong(cells.level, [0, 1], (BadHand, no_hand), (BadMoment, NO_NUMBERS + [-1, 3, 0]))
        self.wrong(cells.run, [()], (BadWeaving, [None, 0, True, [0], [], "0", (1,), (0, 1), (0, 0, True), (0, "2"),
                                                  (0, 2, None), (0, (2,)), {0: 2}, (0, 2, -1)]))
        self.assertEqual(state(cells), before)
        self.assertEqual(cells.view(hand=2, moment=0), 8)
        self.assertEqual(cells.level(hand=2, moment=1), 2)
        self.assertEqual((cells.ended(hand=0), cells.steps(hand=2), cells.found(hand=2)), (0, 2, [(5, 2)]))

    def test_nothing_is_tied(self):
        cells = Cells(ROW, 2)
        cells.run((0, 0, 0, 1, 1))
        before = state(cells)
        cells.found(0).append("changed")
        cells.found(1).clear()
        self.assertEqual(state(cells), before)
        for thing in ODD:
            self.assertIs(cells == thing, thing is cells)

    def test_twins(self):
        chance = random.Random(2)
        for _ in range(40):
            row = tuple(sorted(chance.sample(FULL, chance.randint(1, 4))))
            cells = Cells(row, chance.randint(0, 4))
            some_run(cells, chance, 25)
            before = state(cells)
            twin = cells.twin()
            self.assertIsNot(twin, cells)
            self.assertEqual(state(twin), before)
            weaving = tuple(chance.choice(row)[0] for _ in range(60))
            twin.run(weaving)
            self.assertEqual(state(cells), before)
            later = state(twin)
            third = twin.twin()
            cells.run(weaving)
            self.assertEqual((state(cells), state(twin), state(third)), (later,) * 3)
            cells.run(weaving[::-1])
            self.assertEqual(state(twin), later)


class Weavings(Case):
    def check(self, cells):
        """The facts of [31] for cells as they stand."""
        hands = [hand for hand, _ in cells.row]
        before = state(cells)
        course = self.same(course_of_run, "cells", cells)
        self.assertEqual(state(cells), before)
        self.assertIs(is_course(tuple(hands), course), True)
        self.assertEqual(len(course), cells.rounds)
        for moment in range(1, cells.rounds + 1):
            views = plain_end(cells.row, course[:moment])
            told = {hand: cells.view(hand, moment) for hand in hands if cells.ended(hand) >= moment}
            self.assertEqual(told, {hand: views[hand] for hand in told})
            if told:
                self.assertIs(are_together(moment, tuple(told.items())), True)
            for level in range(1, cells.many + 1):
                low = [hand for hand in hands if (cells.level(hand, moment) or 9) <= level]
                self.assertLessEqual(len(low), level)
            for hand in told:
                self.assertEqual(len(told[hand]), cells.level(hand, moment))
        for hand in hands:
            ended = sum((cells.many - len(cells.view(hand, moment)) + 1) * (cells.many + 1)
                        for moment in range(1, cells.ended(hand) + 1))
            self.assertTrue(0 <= cells.steps(hand) - ended <= cells.many * (cells.many + 1))

    def test_runs_by_chance(self):
        chance = random.Random(3)
        for _ in range(150):
            row = tuple(sorted(chance.sample(FULL, chance.randint(1, 4))))
            cells = Cells(row, chance.randint(0, 6))
            for _ in range(4):
                some_run(cells, chance, chance.randint(0, 60), chance.choice([0, 0.05]))
                self.check(cells)

    def test_all_runs_of_two_hands(self):
        met = {}
        left = [Cells(ROW, 1)]
        while left:
            cells = left.pop()
            key = state(cells).replace(repr(cells.weaving()), "")
            if key not in met:
                met[key] = True
                self.check(cells)
                for hand in (0, 1):
                    twin = cells.twin()
                    if twin.step(hand) is not None:
                        left.append(twin)
        self.assertEqual(len(met), 67)

    def test_four_hands_to_the_end(self):
        begun = time.monotonic()
        chance = random.Random(4)
        for _ in range(4):
            cells = Cells(FULL, 6)
            while min(cells.ended(hand) for hand in range(4)) < 6:
                cells.step(chance.randrange(4))
            self.check(cells)
            for hand in range(4):
                self.assertLessEqual(cells.steps(hand), 6 * 4 * 5)
                self.assertIsNone(cells.step(hand))
        self.assertLess(time.monotonic() - begun, 60)

    def test_weaving_of(self):
        for hands, rounds in (((2,), 3), ((0, 1), 0), ((0, 1), 1), ((1, 3), 3), ((0, 1, 2), 2), ((0, 1, 2, 3), 1)):
            row = tuple((hand, 7 + hand) for hand in hands)
            for course in plain_courses(hands, rounds):
                cells = Cells(row, rounds)
                cells.run(weaving_of(hands, course))
                self.assertEqual({hand: cells.view(hand, rounds) for hand in hands}, plain_end(row, course))
                self.assertEqual(course_of_run(cells), course)
                steps = [(len(hands) - len(seen) + 1) * (len(hands) + 1)
                         for blocks in course for seen in plain_sights(blocks).values()]
                self.assertEqual(len(cells.weaving()), sum(steps))
                self.assertEqual(cells.weaving(), weaving_of(hands, course))
        chance = random.Random(5)
        course = tuple(chance.choice(plain_blocks((0, 1, 2, 3))) for _ in range(6))
        cells = Cells(FULL, 6)
        cells.run(self.same(weaving_of, "hands course", (0, 1, 2, 3), course))
        self.assertEqual({hand: cells.view(hand, 6) for hand in range(4)}, plain_end(FULL, course))

    def test_wrong_parameters(self):
        self.wrong(weaving_of, [(0, 1), (((0, 1),),)], (BadHands, NO_HANDS), (BadCourse, NO_COURSES))
        self.assertEqual(self.told(TooMany, weaving_of, (0, 1), (((0, 1),),) * 7).most, 6)
        self.told(BadCourse, weaving_of, (0, 1), (((0, 1),),) * 7 + (((0,),),))
        self.wrong(course_of_run, [Cells(ROW, 1)], (BadCells, NO_CELLS))
        self.wrong(when, [Cells(ROW, 2), 1], (BadCells, NO_CELLS), (BadMoment, NO_NUMBERS + [0, -1, 3]))
        self.told(BadMoment, when, Cells(ROW, 0), 0)

    def test_when(self):
        chance = random.Random(6)
        told = 0
        for _ in range(150):
            row = tuple(sorted(chance.sample(FULL, chance.randint(1, 4))))
            hands = tuple(hand for hand, _ in row)
            rounds = chance.randint(1, 4)
            cells, ends = Cells(row, rounds), {}
            writes = {}
            number = 0
            for _ in range(chance.choice([40, 4000])):
                hand = chance.choice(hands)
                found = cells.step(hand)
                if found is not None:
                    number += 1
                    if found[0] == "write":
                        writes.setdefault((hand, found[1]), number)
                    ends.setdefault((hand, cells.ended(hand)), number)
            before = state(cells)
            for moment in range(1, rounds + 1):
                found = self.same(when, "cells moment", cells, moment)
                if any(cells.ended(hand) < moment for hand in hands):
                    self.assertIsNone(found)
                    continue
                told += 1
                self.assertIsInstance(found, list)
                self.assertEqual(tuple(block for block, _ in found), course_of_run(cells)[moment - 1])
                least = 0
                for block, number_told in found:
                    least = max([least] + [writes[hand, moment] for hand in block])
                    self.assertEqual(number_told, least)
                    for hand in block:
                        self.assertTrue(writes[hand, moment] <= number_told < ends[hand, moment] + 1)
                        self.assertGreaterEqual(ends[hand, moment], number_told)
            self.assertEqual(state(cells), before)
        self.assertGreater(told, 60)
        cells = Cells(ROW, 1)
        cells.run((1,) * 6 + (0,) * 3)
        self.assertEqual(when(cells, 1), [((1,), 1), ((0,), 7)])


if __name__ == "__main__":
    unittest.main()
