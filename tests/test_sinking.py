"""[75]: triangles that sink to a fall, and rings that are filled."""

import itertools
import random
import time
import unittest

from tests.helping import NO_ROUNDS, NO_ROWS, NO_TASKS, Case, kinds, plain_courses, plain_end, plain_leaves, plain_parts
from tests.test_odd import Answers, plain_answered, simplex
from tests.test_papers import EVERY, ROW, SOME, part_of, plain_judge, plain_sides, plain_ties, round_and_round
from tests.test_signs import plain_sign
from waitless.courses import across
from waitless.errors import BadAnswer, BadHands, BadInput, BadPapers, BadRounds, BadTask, TooMany
from waitless.falls import is_fall
from waitless.making import few
from waitless.odd import odd_paper
from waitless.papers import all_rounds, from_odd
from waitless.sinking import filling, sink
from waitless.tasks import Task


def plain_let(task, row, rounds, corner):
    """What the hand of a corner has in answers to what it has seen."""
    hands = {hand for hand, _ in plain_leaves(rounds, (corner,))}
    return [dict(told)[corner[0]] for told in task.answers(part_of(row, hands))]


def plain_way(row, side, rounds, answer):
    """What is answered along a side: each next course is across of the one ahead."""
    part = part_of(row, side)
    course = (((side[0],), (side[1],)),) * rounds
    places, last = [(side[0], dict(plain_answered(part, course, answer))[side[0]])], None
    moved = side[0]
    while course is not None:
        last = course
        moved = side[1] if moved == side[0] else side[0]
        places.append((moved, dict(plain_answered(part, course, answer))[moved]))
        # The other hand goes across, so that the one just told keeps its corner.
        course = across(side, course, side[0] if moved == side[1] else side[1])
    assert last is not None
    return tuple(places)


class Sinking(Case):
    def check_sink(self, task, row, papers, rounds, answers):
        fall = sink(task, row, papers, rounds, answers)
        # All corners asked for are those of the row.
        self.assertTrue(len(answers.corners) <= 12 * 3 ** rounds)
        for corner in answers.corners[:40]:
            self.assertTrue(plain_leaves(rounds, (corner,)) <= set(row))
        self.assertIs(is_fall(task, rounds, answers, fall), True)
        self.assertEqual(kinds(sink(task, row, papers, rounds, answers)), kinds(fall))
        part, course, told = fall
        self.assertTrue(set(part) <= set(row))
        self.assertEqual(told, plain_answered(part, course, answers))
        self.assertNotIn(told, task.answers(part))
        return fall

    def test_by_hand(self):
        papers = all_rounds(SOME, ROW)
        fall = self.same(sink, "task row papers rounds answer", SOME, ROW, papers, 0, lambda corner: corner[1])
        self.assertEqual(fall, (ROW, (), ROW))
        # Hand 0 alone answers what isn't its own; hands 0 and 1 answer what is none of theirs.
        self.assertEqual(sink(SOME, ROW, papers, 0, lambda corner: 2 if corner[0] == 0 else corner[1]),
                         (((0, 0),), (), ((0, 2),)))
        fall = sink(SOME, ROW, papers, 1, lambda corner: 2 if len(corner[1]) == 2 and corner[1][1][0] == 1
                    else dict(corner[1])[corner[0]])
        self.assertEqual((len(fall[0]), fall[0][1]), (2, (1, 1)))
        # The least input seen is answered: wrong is just one course, that in which all three answer unlike.
        fall = sink(SOME, ROW, papers, 1, lambda corner: corner[1][0][1])
        self.assertEqual(fall, (ROW, (((2,), (1,), (0,)),), ((0, 0), (1, 1), (2, 2))))

    def test_hands_alone(self):
        row = ((0, 4), (1, 1), (2, 2))
        task = few(3, (1, 2, 4), 2)
        papers = all_rounds(task, row)
        for hand, value in row:
            for rounds in (0, 1, 2):
                def answer(corner):
                    seen = plain_leaves(rounds, (corner,))
                    return 9 if seen == {(hand, value)} else dict(sorted(seen))[corner[0]]
                self.assertEqual(sink(task, row, papers, rounds, answer),
                                 (((hand, value),), (((hand,),),) * rounds, ((hand, 9),)))
                self.assertEqual(filling(task, row, rounds, answer),
                                 (((hand, value),), (((hand,),),) * rounds, ((hand, 9),)))

    def test_all_kinds_of_tasks(self):
        chance = random.Random(91)
        found, kinds_met = {}, set()
        for _ in range(900):
            if chance.random() < 0.5:
                values = chance.sample(range(6), 3)
                task, row = few(3, tuple(sorted(values)), 2), tuple(enumerate(values))
            else:
                task = loose_task(chance)
                row = task.inputs()[-1]
            papers = all_rounds(task, row)
            if papers is None:
                continue
            rounds = chance.randint(0, 3)
            answers = Answers(chance, lambda corner: plain_let(task, row, rounds, corner))
            try:
                if chance.random() < 0.3:
                    papers = from_odd(task, odd_paper(task, row))
            except (TooMany, TypeError, ValueError):
                pass
            fall = self.check_sink(task, row, papers, rounds, answers)
            key = (rounds, len(fall[0]))
            found[key] = found.get(key, 0) + 1
            kinds_met |= {paper[0] for paper in papers.values()}
        self.assertTrue({(rounds, 3) for rounds in range(4)} <= set(found), found)
        self.assertTrue(all(many >= 5 for key, many in found.items() if key[1] == 3), found)
        self.assertEqual(kinds_met, {"apart", "weights"})

    def test_answers_of_no_sense(self):
        chance = random.Random(92)
        met = set()
        for task in (SOME, round_and_round(3), round_and_round(4)):
            row = ROW
            papers = all_rounds(task, row)
            for rounds in (0, 1, 2, 3):
                for values in ([0], [0, 1, 2], [7, 999999999], list(range(8))):
                    answers = Answers(chance, lambda corner: values)
                    met.add(len(self.check_sink(task, row, papers, rounds, answers)[0]))
        self.assertTrue({1, 3} <= met)

    def test_places_that_are_no_ties(self):
        # All sides are right; inside, hands 1 and 2 may answer what stands together nowhere.
        chance = random.Random(93)
        task = round_and_round(3)
        papers = all_rounds(task, ROW)
        values = {hand: sorted({dict(told)[hand] for told in task.answers(ROW)}) for hand in range(3)}
        for _ in range(30):
            rounds = chance.randint(1, 3)
            answers = Answers(chance, lambda corner: [0] if len(plain_leaves(rounds, (corner,))) < 3
                              else values[corner[0]])
            fall = self.check_sink(task, ROW, papers, rounds, answers)
            self.assertEqual(fall[0], ROW)

    def test_all_sides_right_and_all_falls_inside(self):
        # Of the courses only those of the fall asked for are wrong: the first answer seen is told.
        papers = all_rounds(SOME, ROW)
        for rounds in range(4):
            def lowest(corner):
                return min(value for _, value in plain_leaves(rounds, (corner,)))
            wrong = [course for course in plain_courses((0, 1, 2), rounds)
                     if plain_answered(ROW, course, lowest) not in SOME.answers(ROW)]
            fall = sink(SOME, ROW, papers, rounds, lowest)
            self.assertEqual(wrong, [fall[1]])

    def test_six_rounds(self):
        begun = time.monotonic()
        chance = random.Random(94)
        papers = all_rounds(SOME, ROW)
        for rounds in (4, 5, 6):
            answers = Answers(chance, lambda corner: plain_let(SOME, ROW, rounds, corner))
            fall = self.check_sink(SOME, ROW, papers, rounds, answers)
            self.assertEqual(len(fall[0]), 3)
        self.assertLess(time.monotonic() - begun, 100)

    def test_wrong_parameters(self):
        papers = all_rounds(SOME, ROW)
        paper = papers[0, 1, 2]
        inputs = (BadInput, NO_ROWS + [((0, 3),), ((0, 0), (1, 1), (2, 9))])
        no_papers = [None, True, (), {}, [], {(0, 1, 2): None}, {(0, 1): paper}, list(papers.items()), {**papers, None: paper},
                     {(0, 1, 2): paper[:2]}, {(0, True, 2): paper},
                     {(0, 1, 2): (paper[0], paper[1], {**paper[2], ((0, 0), (1, 1)): 1 - paper[2][(0, 0), (1, 1)]})}]
        self.wrong(sink, [SOME, ROW, papers, 0, lambda corner: 0], (BadTask, NO_TASKS), inputs, (BadPapers, no_papers),
                   (BadRounds, NO_ROUNDS), (BadAnswer, [lambda corner: None]))
        filled = {(0, 1, 2): ("filled", (((0, 0), (1, 1)), ((1, 1), (2, 2)), ((0, 0), (2, 2))), {ROW: 1})}
        self.told(BadPapers, sink, EVERY, ROW, filled, 0, lambda corner: 0)
        self.wrong(filling, [SOME, ROW, 0, lambda corner: 0], (BadTask, NO_TASKS), inputs, (BadRounds, NO_ROUNDS),
                   (BadAnswer, [lambda corner: None]))
        for row in (ROW[:2], ROW[1:2]):
            self.told(BadHands, sink, SOME, row, None, None, None)
            self.told(BadHands, filling, SOME, row, None, None)
        for rounds in (4, 5, 6):
            self.assertEqual(self.told(TooMany, filling, SOME, ROW, rounds, None).most, 6000)
        for put in (None, True, False, "0", -1, 10 ** 9, 0.0, (0,), []):
            def answer(corner):
                return put if corner == (2, 2) else corner[1]
            self.assertEqual(self.told(BadAnswer, sink, SOME, ROW, papers, 0, answer).corner, (2, 2))
            self.assertEqual(self.told(BadAnswer, filling, SOME, ROW, 0, answer).corner, (2, 2))


class Filling(Case):
    def check(self, task, row, rounds, answer):
        told = self.same(filling, "task row rounds answer", task, row, rounds, answer)
        falls = [(part, course) for part in plain_parts(row)
                 for course in plain_courses(tuple(hand for hand, _ in part), rounds)
                 if plain_answered(part, course, answer) not in task.answers(part)]
        if falls:
            self.assertIn(told[:2], falls)
            self.assertIs(is_fall(task, rounds, answer, told), True)
            return "fall"
        counts = {}
        for course in plain_courses(tuple(hand for hand, _ in row), rounds):
            answers = plain_answered(row, course, answer)
            counts[answers] = counts.get(answers, 0) + plain_sign(course)
        ways = tuple(plain_way(row, side, rounds, answer) for side in plain_sides(row))
        self.assertEqual(told, ("filled", ways, {answers: count for answers, count in counts.items() if count}))
        self.assertEqual(list(told[2]), sorted(told[2]))
        self.assertEqual([len(way) for way in told[1]], [3 ** rounds + 1] * 3)
        choice = tuple(way[0][1] for way in (ways[0], ways[1])) + (ways[1][-1][1],)
        self.assertIs(plain_judge(task, row, choice, told), True)
        return "filled"

    def test_by_hand(self):
        told = filling(EVERY, ROW, 0, lambda corner: corner[1])
        self.assertEqual(told, ("filled", (((0, 0), (1, 1)), ((1, 1), (2, 2)), ((0, 0), (2, 2))), {ROW: 1}))
        self.assertEqual(filling(SOME, ROW, 0, lambda corner: corner[1]), (ROW, (), ROW))
        self.assertEqual(filling(EVERY, ROW, 0, lambda corner: 0), (((1, 1),), (), ((1, 0),)))
        own = filling(EVERY, ROW, 2, lambda corner: plain_own(corner))
        self.assertEqual(own[2], {ROW: 1})

    def test_of_all_kinds(self):
        chance = random.Random(95)
        found = {}
        for _ in range(150):
            rounds = chance.choice((0, 0, 1, 1, 2))
            values = chance.sample(range(5), 3)
            task, row = few(3, tuple(sorted(values)), 3), tuple(enumerate(values))
            if chance.random() < 0.3:
                task = loose_task(chance)
                row = task.inputs()[-1]
            elif chance.random() < 0.2:
                answers = task.answers(row)
                task = Task(3, {**task.table(), row: chance.sample(answers, len(answers) - 1)})
            answers = Answers(chance, lambda corner: plain_let(task, row, rounds, corner))
            key = (rounds, self.check(task, row, rounds, answers))
            found[key] = found.get(key, 0) + 1
        self.assertTrue({(rounds, told) for rounds in (0, 1, 2) for told in ("fall", "filled")} <= set(found), found)

    def test_three_rounds(self):
        begun = time.monotonic()
        chance = random.Random(96)
        answers = Answers(chance, lambda corner: plain_let(EVERY, ROW, 3, corner))
        self.assertEqual(self.check(EVERY, ROW, 3, answers), "filled")
        self.assertLess(time.monotonic() - begun, 100)


def plain_own(corner):
    """The hand's own input, that it has seen."""
    return dict(sorted(plain_leaves(2, (corner,))))[corner[0]]


def loose_task(chance):
    """A task of three hands whose answers are so many that falls are few."""
    task = simplex(chance, 3, 2, 8)
    table_of = task.table()
    for row in table_of:
        if len(row) == 2:
            every = [tuple(zip([hand for hand, _ in row], told)) for told in itertools.product((0, 1), repeat=2)]
            table_of[row] = every[::3] if chance.random() < 0.2 else every[:4 - chance.randint(0, 1)]
        if len(row) == 1:
            table_of[row] = [((row[0][0], value),) for value in range(chance.randint(1, 2))]
    every = [tuple(enumerate(told)) for told in itertools.product((0, 1), repeat=3)]
    table_of[task.inputs()[-1]] = chance.sample(every, chance.randint(2, 7))
    return Task(3, table_of)


if __name__ == "__main__":
    unittest.main()
