"""[32]: what can still come."""

import itertools
import random
import time
import unittest

from tests.helping import NO_CELLS, NO_NUMBERS, ODD, Case, changes, kinds, plain_blocks, plain_courses, plain_end, \
    plain_sights
from tests.test_cells import FULL, NO_COURSES, ROW, some_run, state
from waitless.cells import Cells
from waitless.errors import BadCells, BadCourse, BadMoment
from waitless.futures import bar, blocks_to_come, is_bar, leading
from waitless.weavings import course_of_run


def all_states(row, rounds):
    """The Cells of all states that weavings lead to, each with the places of those one step further."""
    first = Cells(row, rounds)
    found, at, further = [first], {key(first): 0}, []
    for cells in found:
        further.append([])
        for hand, _ in row:
            twin = cells.twin()
            if twin.step(hand) is not None:
                if key(twin) not in at:
                    at[key(twin)] = len(found)
                    found.append(twin)
                further[-1].append(at[key(twin)])
    return found, further


def key(cells):
    """All of a state but the sequence of the steps."""
    return state(cells).replace(repr(cells.weaving()), "")


def all_ends(row, rounds):
    """The states, and for each the courses with whose views some weaving ends that leads on from it."""
    found, further = all_states(row, rounds)
    hands = tuple(hand for hand, _ in row)
    courses = {tuple(plain_end(row, course).items()): course for course in plain_courses(hands, rounds)}
    ends = [None] * len(found)
    for at in range(len(found) - 1, -1, -1):
        if further[at]:
            ends[at] = frozenset().union(*[ends[later] for later in further[at]])
        else:
            ends[at] = frozenset([courses[tuple((hand, found[at].view(hand, rounds)) for hand in hands)]])
    return found, ends


def plain_bars(cells, course):
    """All bars of a course, told by the words."""
    hands = [hand for hand, _ in cells.row]
    many, bars = len(hands), set()
    for number, blocks in enumerate(course, 1):
        sees = plain_sights(blocks)
        level = {hand: many + 1 if cells.level(hand, number) is None else cells.level(hand, number) for hand in hands}
        for hand in hands:
            view = cells.view(hand, number)
            if view is not None:
                if {other for other, _ in view} != sees[hand]:
                    bars.add(("seen", number, hand))
                continue
            size = len(sees[hand])
            read = {} if cells.level(hand, number) is None else dict(zip(hands, cells.found(hand)))
            if level[hand] < size or (level[hand] == size and len(read) == many):
                bars.add(("low", number, hand))
            for other in hands:
                if level[hand] == size and other in sees[hand] and other in read:
                    if read[other] is None or read[other][1] > size:
                        bars.add(("missed", number, hand, other))
                crowd = sees[other]
                if level[hand] > size and len(crowd) == level[hand]:
                    if all((one in read and read[one] is not None and read[one][1] <= level[hand])
                           or (one not in read and level[one] <= level[hand]) for one in crowd):
                        bars.add(("full", number, hand))
            for block in blocks:
                most = len(sees[block[0]])
                if level[hand] > most > size and all(level[one] <= most for one in block):
                    bars.add(("late", number, hand, most))
    return bars


def all_tuples(hands, rounds):
    """All things that might be bars."""
    numbers = range(-1, rounds + 2)
    for kind in ("seen", "low", "full", "missed", "late", "other"):
        for number, hand in itertools.product(numbers, range(-1, 5)):
            yield (kind, number, hand)
            for last in range(-1, 6):
                yield (kind, number, hand, last)


class Futures(Case):
    def test_example(self):
        cells = Cells(ROW, 1)
        cells.run((0, 0, 0))
        self.assertEqual(blocks_to_come(cells, 1), [((0,), (1,))])
        self.assertIs(is_bar(cells, (((0, 1),),), ("low", 1, 0)), True)
        self.assertIsNone(leading(cells, (((0, 1),),)))
        self.assertIsNone(bar(cells, (((0,), (1,)),)))

    def check_course(self, cells, course, can):
        """leading, bar and is_bar of a course that can come, or can't."""
        hands = [hand for hand, _ in cells.row]
        before = state(cells)
        found = bar(cells, course)
        weaving = leading(cells, course)
        self.assertEqual((found is None, weaving is not None), (can, can))
        if found is not None:
            self.assertIs(is_bar(cells, course, found), True)
            self.assertIn(found, plain_bars(cells, course))
        else:
            run = cells.twin()
            for hand in weaving:
                self.assertIsNotNone(run.step(hand))
            self.assertEqual({hand: run.view(hand, cells.rounds) for hand in hands}, plain_end(cells.row, course))
            self.assertEqual(weaving, leading(cells, course))
        self.assertEqual(state(cells), before)

    def test_all_states_of_few_hands(self):
        for row, rounds in ((ROW[:1], 2), (ROW, 0), (ROW, 1), (ROW, 2)):
            hands = tuple(hand for hand, _ in row)
            for cells, ends in zip(*all_ends(row, rounds)):
                before = state(cells)
                for course in plain_courses(hands, rounds):
                    self.assertEqual(bar(cells, course) is None, course in ends)
                    if len(ends) < 3 or rounds < 2:
                        self.check_course(cells, course, course in ends)
                told = [blocks_to_come(cells, moment) for moment in range(1, rounds + 1)]
                self.assertEqual(told, [sorted({course[at] for course in ends}) for at in range(rounds)])
                self.assertEqual(set(itertools.product(*told)), set(ends))
                self.assertEqual(state(cells), before)

    def test_all_states_of_three_hands(self):
        found, ends = all_ends(FULL[:3], 1)
        self.assertEqual(len(found), 12433)
        for at, cells in enumerate(found):
            self.assertEqual(blocks_to_come(cells, 1), sorted(course[0] for course in ends[at]))
            if at % 40 == 0:
                for blocks in plain_blocks((0, 1, 2)):
                    self.check_course(cells, (blocks,), (blocks,) in ends[at])

    def test_all_bars(self):
        met = set()
        chance = random.Random(1)
        for row, rounds, every in ((ROW, 1, 1), (ROW, 2, 60), (FULL[:3], 1, 150)):
            hands = tuple(hand for hand, _ in row)
            things = list(all_tuples(hands, rounds))
            for cells in all_states(row, rounds)[0][::every]:
                for course in chance.sample(plain_courses(hands, rounds), 3):
                    plain = plain_bars(cells, course)
                    met |= {one[0] for one in plain}
                    for thing in things:
                        self.assertIs(is_bar(cells, course, thing), thing in plain, (thing, course))
        self.assertEqual(met, {"seen", "low", "missed", "full", "late"})

    def test_any_value(self):
        chance = random.Random(2)
        for _ in range(12):
            cells = Cells(FULL[:3], 2)
            some_run(cells, chance, 12)
            course = tuple(chance.choice(plain_blocks((0, 1, 2))) for _ in range(2))
            plain = plain_bars(cells, course)
            let = {kinds(one) for one in plain}
            for thing in ODD:
                self.assertIs(is_bar(cells, course, thing), False)
            for one in plain:
                for other in list(changes(one)) + [one + (0,), (one[0], bool(one[1])) + one[2:], list(one)]:
                    self.assertIs(is_bar(cells=cells, course=course, thing=other), kinds(other) in let)

    def test_steps_take_away(self):
        chance = random.Random(3)
        for _ in range(25):
            row = tuple(sorted(chance.sample(FULL, chance.randint(1, 4))))
            rounds = chance.randint(1, 3)
            cells = Cells(row, rounds)
            hands = [hand for hand, _ in row]
            told = [blocks_to_come(cells, moment) for moment in range(1, rounds + 1)]
            self.assertEqual(told, [sorted(plain_blocks(tuple(hands)))] * rounds)
            while min(cells.ended(hand) for hand in hands) < rounds:
                step = cells.step(chance.choice(hands))
                now = [blocks_to_come(cells, moment) for moment in range(1, rounds + 1)]
                for at in range(rounds):
                    self.assertTrue(now[at])
                    self.assertTrue(set(now[at]) <= set(told[at]))
                    if step is None or step[1] != at + 1:
                        self.assertEqual(now[at], told[at])
                told = now
            self.assertEqual(tuple(one[0] for one in told), course_of_run(cells))
            self.assertEqual([len(one) for one in told], [1] * rounds)

    def test_by_position_and_by_name(self):
        cells = Cells(ROW, 2)
        cells.run((0, 1, 0, 1))
        course = (((0, 1),), ((1,), (0,)))
        for called, names, told in ((leading, "cells course", (course,)), (bar, "cells course", (course,)),
                                    (blocks_to_come, "cells moment", (1,)),
                                    (is_bar, "cells course thing", (course, ("low", 1, 0)))):
            self.same(called, names, cells, *told)
        blocks_to_come(cells, 1).clear()
        self.assertTrue(blocks_to_come(cells, 1))

    def test_wrong_parameters(self):
        cells = Cells(ROW, 1)
        course = (((0, 1),),)
        wrong = NO_COURSES + [(), (((0, 1),), ((0, 1),))]
        for called in (leading, bar):
            self.wrong(called, [cells, course], (BadCells, NO_CELLS), (BadCourse, wrong))
        self.wrong(is_bar, [cells, course, None], (BadCells, NO_CELLS), (BadCourse, wrong), (None, []))
        self.wrong(blocks_to_come, [cells, 1], (BadCells, NO_CELLS), (BadMoment, NO_NUMBERS + [0, -1, 2]))

    def test_four_hands_and_six_rounds(self):
        chance = random.Random(4)
        begun = time.monotonic()
        for steps in (0, 20, 60, 120):
            cells = Cells(FULL, 6)
            some_run(cells, chance, steps)
            course = tuple(chance.choice(blocks_to_come(cells, moment)) for moment in range(1, 7))
            self.check_course(cells, course, True)
            for moment in range(1, 7):
                for blocks in chance.sample(plain_blocks((0, 1, 2, 3)), 5):
                    other = course[:moment - 1] + (blocks,) + course[moment:]
                    self.assertEqual(bar(cells, other) is None, blocks in blocks_to_come(cells, moment))
        self.assertLess(time.monotonic() - begun, 120)


if __name__ == "__main__":
    unittest.main()
