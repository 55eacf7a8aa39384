"""[50]: tables."""

import itertools
import random
import time
import unittest

from tests.helping import NO_NUMBERS, NO_ROWS, NO_TASKS, ODD, Case, deep_view, kinds, plain_courses, plain_end, \
    plain_facets, plain_leaves, plain_parts
from waitless.errors import BadCourse, BadInput, BadRounds, BadTask, NoTable, TooMany
from waitless.making import agreement, few, near
from waitless.tables import answered, choices, corners_of, is_table, longer
from waitless.tasks import Task
from waitless.views import view_then

EXAMPLE = Task(2, {((0, 5),): [((0, 0),)], ((1, 7),): [((1, 2),), ((1, 3),)],
                   ((0, 5), (1, 7)): [((0, 0), (1, 1)), ((0, 1), (1, 1)), ((0, 1), (1, 2))]})
ONLY = {(0, ((0, 5),)): 0, (0, ((0, 5), (1, 7))): 1, (1, ((0, 5), (1, 7))): 1, (1, ((1, 7),)): 2}
NO_TASK_ROUNDS = NO_NUMBERS + [-1, 4, 6]
WIDE = Task(4, {row: [row] for row in plain_parts(((0, 1), (1, 1), (2, 1), (3, 1)))})


def some_task(chance, many, inputs, answers):
    """A task of a few inputs with all their parts, and many answers."""
    table = {}
    for _ in range(inputs):
        hands = sorted(chance.sample(range(many), chance.randint(1, many)))
        for row in plain_parts(tuple((hand, chance.randint(0, 1)) for hand in hands)):
            told = [tuple((hand, value) for (hand, _), value in zip(row, values))
                    for values in itertools.product(range(answers), repeat=len(row))]
            table.setdefault(row, chance.sample(told, chance.randint(max(1, len(told) - 2), len(told))))
    return Task(many, table)


def plain_corners(task, rounds):
    """All corners of all inputs."""
    return {corner for row in task.inputs() for facet in plain_facets(row, rounds) for corner in facet}


def plain_choices(task, rounds):
    """What the hands of corners have in the answers to what they have seen."""
    found = {}
    for hand, view in sorted(plain_corners(task, rounds)):
        row = tuple(sorted(plain_leaves(rounds, ((hand, view),))))
        found[hand, view] = tuple(sorted({dict(answer)[hand] for answer in task.answers(row)}))
    return found


def plain_is_table(task, rounds, thing):
    """Whether a dict from all corners to numbers answers rightly in all facets."""
    return all(tuple((hand, thing[hand, view]) for hand, view in facet) in task.answers(row)
               for row in task.inputs() for facet in plain_facets(row, rounds))


class Tables(Case):
    def test_example(self):
        tables = {}
        for rounds in (0, 1):
            told = choices(EXAMPLE, rounds)
            every = [dict(zip(told, values)) for values in itertools.product(*told.values())]
            tables[rounds] = [one for one in every if is_table(EXAMPLE, rounds, one)]
        self.assertEqual(tables, {0: [], 1: [ONLY]})

    def test_corners_and_choices(self):
        chance = random.Random(1)
        for _ in range(40):
            task = some_task(chance, chance.randint(1, 4), chance.randint(1, 2), 2)
            widest = len(task.inputs()[-1])
            for rounds in range({1: 4, 2: 4, 3: 3, 4: 2}[widest]):
                found = corners_of(task, rounds)
                self.assertEqual(found, sorted(plain_corners(task, rounds)))
                told = choices(task, rounds)
                self.assertEqual(list(told.items()), list(plain_choices(task, rounds).items()))
                found.clear()
                told.clear()
                self.assertTrue(corners_of(task, rounds) and choices(task, rounds))
        self.same(corners_of, "task rounds", EXAMPLE, 1)
        self.same(choices, "task rounds", EXAMPLE, 1)
        self.assertEqual(corners_of(EXAMPLE, 0), [(0, 5), (1, 7)])

    def test_all_tables_of_small_tasks(self):
        chance = random.Random(2)
        found = []
        for _ in range(250):
            task = some_task(chance, chance.randint(1, 3), chance.randint(1, 2), 2)
            rounds = chance.randint(0, 2)
            corners = sorted(plain_corners(task, rounds))
            if len(corners) > 40:
                continue
            told = plain_choices(task, rounds)
            for _ in range(12):
                one = {corner: chance.choice(told[corner]) for corner in corners}
                right = plain_is_table(task, rounds, one)
                self.assertIs(is_table(task, rounds, one), right)
                found.append(right)
                if right and rounds < 2:
                    self.check_longer(task, rounds, one)
                if right:
                    self.check_answered(task, rounds, one)
        self.assertTrue(50 < sum(found) < len(found) - 50)

    def check_longer(self, task, rounds, table):
        before = dict(table)
        found = longer(task, rounds, table)
        self.assertEqual(table, before)
        self.assertEqual(list(found), sorted(plain_corners(task, rounds + 1)))
        for hand, view in found:
            self.assertEqual(found[hand, view], table[hand, view_then(hand, rounds + 1, view, rounds)])
        self.assertIs(plain_is_table(task, rounds + 1, found), True)
        self.assertIs(is_table(task, rounds + 1, found), True)

    def check_answered(self, task, rounds, table):
        for row in task.inputs():
            for course in plain_courses(tuple(hand for hand, _ in row), rounds)[:20]:
                told = answered(task, rounds, table, row, course)
                self.assertEqual(told, tuple((hand, table[hand, view])
                                             for hand, view in plain_end(row, course).items()))
                self.assertIn(told, task.answers(row))

    def test_is_table_of_any_value(self):
        let = {kinds(ONLY)}
        self.assertIs(is_table(task=EXAMPLE, rounds=1, thing=ONLY), True)
        for thing in ODD + [list(ONLY.items()), tuple(ONLY.items()), tuple(ONLY)]:
            self.assertIs(is_table(EXAMPLE, 1, thing), False)
            self.assertIs(is_table(EXAMPLE, 0, thing), False)
        for corner in ONLY:
            for value in (True, False, None, -1, 0, 1, 2, 3, "0", 1.0, (), [], 10 ** 40):
                self.assertIs(is_table(EXAMPLE, 1, {**ONLY, corner: value}), kinds({**ONLY, corner: value}) in let)
            left = {one: ONLY[one] for one in ONLY if one != corner}
            hand, view = corner
            self.assertIs(is_table(EXAMPLE, 1, left), False)
            for other in (None, 0, (), (hand,), (bool(hand), view), (hand, view, 0), (1 - hand, view), (hand, 5),
                          (hand, tuple((one, float(value)) for one, value in view)), (hand, ((0, 6),)), (4, view), view,
                          (hand, tuple((bool(one), value) for one, value in view)), (hand, (view,)), "corner", (0, deep_view(60))):
                self.assertIs(is_table(EXAMPLE, 1, {**left, other: ONLY[corner]}), False)
            self.assertIs(is_table(EXAMPLE, 1, {**ONLY, (hand, ((hand, 9),)): 0}), False)
        # Values and hands of 0 and 1, that False and True could stand for.
        task = agreement(1, (0, 1))
        self.assertIs(is_table(task, 0, {(0, 0): 0, (0, 1): 1}), True)
        for thing in ({(0, 0): False, (0, 1): 1}, {(0, False): 0, (0, 1): 1}, {(0, 0): 0, (0, True): 1},
                      {(False, 0): 0, (0, 1): 1}, {(0, 0): 0, (0, 1): True}, {(0, 0): 0, (0, 1): 1.0}):
            self.assertIs(is_table(task, 0, thing), False)
        self.assertIs(is_table(EXAMPLE, 1, dict(reversed(list(ONLY.items())))), True)

    def test_by_position_and_by_name(self):
        row, course = ((0, 5), (1, 7)), (((0,), (1,)),)
        self.same(is_table, "task rounds thing", EXAMPLE, 1, ONLY)
        self.assertEqual(self.same(answered, "task rounds table row course", EXAMPLE, 1, ONLY, row, course),
                         ((0, 0), (1, 1)))
        found = self.same(longer, "task rounds table", EXAMPLE, 1, ONLY)
        found.clear()
        self.assertTrue(longer(EXAMPLE, 1, ONLY))

    def test_wrong_parameters(self):
        rounds = (BadRounds, NO_TASK_ROUNDS)
        for called in (corners_of, choices):
            self.wrong(called, [EXAMPLE, 1], (BadTask, NO_TASKS), rounds)
        self.wrong(is_table, [EXAMPLE, 1, ONLY], (BadTask, NO_TASKS), rounds, (None, []))
        no_tables = [None, True, (), {}, list(ONLY.items()), {**ONLY, (1, ((1, 7),)): 3}, {**ONLY, (1, ((1, 7),)): "2"},
                     {**ONLY, (0, ((0, 5),)): False}, {**ONLY, None: 0}, {(0, 5): 0, (1, 7): 2}]
        no_courses = [None, True, [], (), (((0,),),), (((0, 1), (0,)),), (((0, True),),), (((0, 1),),) * 2, [((0, 1),)]]
        self.wrong(answered, [EXAMPLE, 1, ONLY, ((0, 5), (1, 7)), (((0, 1),),)], (BadTask, NO_TASKS), rounds,
                   (NoTable, no_tables), (BadInput, NO_ROWS + [((0, 6),), ((0, 5), (2, 7))]), (BadCourse, no_courses))
        self.wrong(longer, [EXAMPLE, 1, ONLY], (BadTask, NO_TASKS), (BadRounds, NO_TASK_ROUNDS + [3]),
                   (NoTable, no_tables))

    def test_too_many_is_told_behind_rounds(self):
        for called, told in ((corners_of, ()), (choices, ()), (is_table, (None,)), (answered, (None, None, None)),
                             (longer, (None,))):
            self.assertEqual(self.told(TooMany, called, WIDE, 2, *told).most, 6000)
            self.told(BadRounds, called, WIDE, 4, *told)
        # One round more is counted for the longer table alone.
        table = {(hand, view): 1 for hand, view in plain_corners(WIDE, 1)}
        self.assertIs(is_table(WIDE, 1, table), True)
        self.assertEqual(self.told(TooMany, longer, WIDE, 1, table).most, 6000)
        self.told(TooMany, longer, WIDE, 1, None)
        self.told(BadRounds, longer, WIDE, 3, None)
        self.check_longer(WIDE, 0, {(hand, 1): 1 for hand in range(4)})

    def test_facets_of_all_inputs_are_added(self):
        # In 3 rounds two hands have 27 facets, one hand has 1.
        for count in (214, 215):
            table = {row: [row] for value in range(count) for row in plain_parts(((0, 0), (1, value)))}
            task = Task(2, table)
            self.assertIs(27 * count + count + 1 > 6000, count == 215)
            if count == 215:
                self.told(TooMany, corners_of, task, 3)
            else:
                self.assertEqual(len(corners_of(task, 3)), len(choices(task, 3)))
                # Inputs of one hand more have one facet each, up to just 6000 and above.
                for more in (7, 8):
                    added = {((0, value),): [((0, value),)] for value in range(1, 1 + more)}
                    wider = Task(2, {**table, **added})
                    if more == 8:
                        self.told(TooMany, corners_of, wider, 3)
                    else:
                        self.assertEqual(len(corners_of(wider, 3)), len(corners_of(task, 3)) + 7)

    def test_large(self):
        begun = time.monotonic()
        chance = random.Random(3)
        for task, rounds in ((few(2, tuple(range(9)), 2), 3), (near(2, 9), 3), (few(3, (0, 1, 2, 3), 3), 1),
                             (few(3, (0,), 3), 3), (few(2, tuple(range(9)), 2), 0),
                             (Task(1, {((0, value),): [((0, value),)] for value in range(1000)}), 3)):
            told = choices(task, rounds)
            table = {(hand, view): next(value for own, value in plain_own(rounds, hand, view)) for hand, view in told}
            right = task != near(2, 9)
            self.assertIs(is_table(task, rounds, table), right)
            corner = chance.choice(list(table))
            self.assertIs(is_table(task, rounds, {**table, corner: 10 ** 40}), False)
            if right and rounds == 0:
                self.check_longer(task, 0, table)
                self.assertEqual(len(longer(task, 2, longer(task, 1, longer(task, 0, table)))), len(choices(task, 3)))
            if right:
                row = task.inputs()[-1]
                course = ((tuple(hand for hand, _ in row),),) * rounds
                self.assertEqual(answered(task, rounds, table, row, course), row)
        self.assertLess(time.monotonic() - begun, 100)


def plain_own(rounds, hand, view):
    """The pair of hand and its own value, that it has seen."""
    return [pair for pair in plain_leaves(rounds, ((hand, view),)) if pair[0] == hand]


if __name__ == "__main__":
    unittest.main()
