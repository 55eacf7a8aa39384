"""[11]: tasks."""

import itertools
import time
import unittest

from tests.helping import CELLS, NO_NUMBERS, NO_ROWS, NO_TASKS, Case, ODD, plain_parts
from waitless.errors import BadInput, BadMany, BadTable, BadTask
from waitless.making import few, near
from waitless.tasks import Task, greatest, may_answer

TABLE = {((0, 0), (1, 5)): [((0, 2), (1, 5))], ((1, 5),): (((1, 5),),), ((0, 0),): [((0, 2),), ((0, 1),)]}
TASK = Task(2, TABLE)
ROW = ((0, 0),)
NO_TABLES = [None, True, 0, [], (), {}, list(TABLE.items()), {0: [ROW]}, {ROW: []}, {ROW: ()}, {ROW: None}, {ROW: {}},
             {ROW: ROW}, {ROW: {ROW: True}}, {ROW: {ROW}}, {ROW: [ROW, ROW]}, {ROW: [((0, 1),), ((0, 1),)]},
             {ROW: [((1, 0),)]}, {ROW: [((0, 0), (1, 0))]}, {ROW: [0]}, {ROW: [[(0, 0)]]}, {ROW: [((0, True),)]},
             {ROW: [((False, 0),)]}, {ROW: [((0, -1),)]}, {ROW: [((0, 10 ** 9),)]}, {((0, True),): [ROW]},
             {((False, 0),): [ROW]}, {((2, 0),): [((2, 0),)]}, {((0, 0), (1, 5)): [((0, 2), (1, 5))]},
             {((0, 0), (1, 5)): [((0, 2), (1, 5))], ((1, 5),): [((1, 5),)]},
             {((0, 0), (1, 5)): [((0, 2), (1, 5))], ((1, 5),): [((1, 5),)], ((0, 1),): [((0, 2),)]},
             {((0, 0), (1, 5)): [((0, 2),)], ((1, 5),): [((1, 5),)], ((0, 0),): [((0, 2),)]},
             {((0, 1), (1, 5)): [((0, 2), (1, 5))], ((1, 5),): [((1, 5),)], ((0, True),): [((0, 2),)]},
             {((1, 5), (0, 0)): [((0, 2), (1, 5))], ((1, 5),): [((1, 5),)], ((0, 0),): [((0, 2),)]},
             {ROW: [ROW, 0]}, {ROW: [ROW, ((1, 0),)]}, {ROW: [ROW, ((0, True),)]}, {ROW: [ROW, [(0, 1)]]},
             {ROW: [ROW, ((0, 1), (1, 1))]}, {ROW: [((0, 10 ** 9),), ROW]}, {ROW: [ROW], None: [ROW]}, {ROW: [ROW], (): [()]}, {ROW: "((0, 0),)"}]


class Tasks(Case):
    def test_wrong_parameters(self):
        self.wrong(Task, [2, TABLE], (BadMany, NO_NUMBERS + [0, 5, -1, 10 ** 30]), (BadTable, NO_TABLES))
        self.told(BadTable, Task, 1, TABLE)
        for many in (2, 3, 4):
            self.assertEqual(Task(many=many, table=TABLE).many, many)

    def test_all_parts_must_be_there(self):
        row = ((0, 1), (1, 2), (2, 3), (3, 4))
        table = {part: [part] for part in plain_parts(row)}
        self.assertEqual(len(Task(4, table).inputs()), 15)
        for part in list(table):
            if part != row:
                self.told(BadTable, Task, 4, {one: table[one] for one in table if one != part})

    def test_what_is_told(self):
        self.assertEqual(TASK.many, 2)
        self.assertEqual(TASK.inputs(), [((0, 0),), ((1, 5),), ((0, 0), (1, 5))])
        self.assertEqual(TASK.answers(((0, 0),)), [((0, 1),), ((0, 2),)])
        self.assertEqual(TASK.answers(row=((1, 5),)), [((1, 5),)])
        self.assertEqual(list(TASK.table().items()), [
            (((0, 0),), [((0, 1),), ((0, 2),)]), (((1, 5),), [((1, 5),)]), (((0, 0), (1, 5)), [((0, 2), (1, 5))])])
        for row in NO_ROWS + [((0, 1),), ((1, 0),), ((0, 0), (1, 4)), ((0, 0), (2, 5)), ((0, False),)]:
            self.told(BadInput, TASK.answers, row)

    def test_nothing_is_tied(self):
        table = {((0, 0),): [((0, 1),)]}
        task = Task(1, table)
        table[((0, 0),)].append(((0, 2),))
        table[((0, 1),)] = [((0, 1),)]
        task.inputs().clear()
        task.answers(((0, 0),)).append(((0, 3),))
        task.table().clear()
        task.table()[((0, 0),)].append(((0, 3),))
        self.assertEqual(task.table(), {((0, 0),): [((0, 1),)]})
        self.assertEqual(task, Task(1, {((0, 0),): (((0, 1),),)}))
        self.assertIsNot(task.inputs(), task.inputs())

    def test_equal(self):
        turned = {row: TABLE[row] for row in sorted(TABLE)}
        turned[((0, 0),)] = (((0, 1),), ((0, 2),))
        self.assertEqual(Task(2, turned), TASK)
        self.assertFalse(Task(2, turned) != TASK)
        self.assertNotEqual(Task(3, TABLE), TASK)
        self.assertNotEqual(Task(2, {row: TABLE[row][:1] for row in TABLE}), TASK)
        self.assertNotEqual(Task(2, {row: TABLE[row] for row in TABLE if len(row) == 1}), TASK)
        for thing in ODD + [TABLE, TASK.table(), (2, TASK.table())]:
            if not isinstance(thing, Task):
                self.assertIs(TASK == thing, False)
                self.assertIs(thing == TASK, False)
                self.assertIs(TASK != thing, True)

    def test_greatest(self):
        self.assertEqual(self.same(greatest, "task", TASK), [((0, 0), (1, 5))])
        rows = [((0, 0), (2, 5)), ((0, 1), (1, 1), (2, 5)), ((3, 3),)]
        table = {part: [part] for row in rows for part in plain_parts(row)}
        task = Task(4, table)
        self.assertEqual(greatest(task), [((3, 3),), ((0, 0), (2, 5)), ((0, 1), (1, 1), (2, 5))])
        for task in (few(2, (0, 1), 1), near(3, 2)):
            plain = [row for row in task.inputs() if not any(set(row) < set(other) for other in task.inputs())]
            self.assertEqual(greatest(task), plain)
        self.wrong(greatest, [TASK], (BadTask, NO_TASKS))

    def test_may_answer(self):
        full = ((0, 0), (1, 5))
        for row, right in [(full, [((0, 2),), ((1, 5),), ((0, 2), (1, 5))]), (ROW, [((0, 1),), ((0, 2),)])]:
            self.judged(lambda thing: may_answer(TASK, row, thing), right)
            self.judged(lambda thing: may_answer(task=TASK, row=row, thing=thing), right)
        for odd in ODD:
            self.told(BadTask, may_answer, None, ROW, odd)
            self.told(BadInput, may_answer, TASK, ((0, 1),), odd)
        self.wrong(may_answer, [TASK, ROW, ROW], (BadTask, NO_TASKS), (BadInput, NO_ROWS + [((0, 1),)]), (None, []))
        self.told(BadTask, may_answer, CELLS, None, ROW)

    def test_a_thousand_inputs(self):
        begun = time.monotonic()
        hands = (0, 1, 2)
        table = {}
        for size in range(1, 4):
            for chosen in itertools.combinations(hands, size):
                for values in itertools.product(range(9), repeat=size):
                    table[tuple(zip(chosen, values))] = [tuple(zip(chosen, told)) for told in
                                                         itertools.product(set(values), repeat=size)]
        task = Task(3, table)
        self.assertEqual(len(task.inputs()), 999)
        self.assertEqual(len(greatest(task)), 729)
        self.assertEqual(task, few(3, tuple(range(9)), 3))
        one = Task(1, {((0, value),): [((0, 999999999 - value),)] for value in range(1000)})
        self.assertEqual(greatest(one), one.inputs())
        self.assertLess(time.monotonic() - begun, 60)


if __name__ == "__main__":
    unittest.main()
