"""[54]: tables on cells."""

import random
import unittest

from tests.helping import NO_HAND, NO_ROWS, NO_TASKS, Case, kinds
from tests.test_tables import EXAMPLE, NO_TASK_ROUNDS, ONLY, WIDE, some_task
from tests.test_chaining import some_table
from waitless.cells import Cells
from waitless.errors import BadHand, BadInput, BadRounds, BadTask, NoTable, TooMany
from waitless.making import few
from waitless.running import Runner
from waitless.tables import longer
from waitless.tasks import may_answer

BOTH = ((0, 5), (1, 7))


class Running(Case):
    def test_by_hand(self):
        runner = Runner(task=EXAMPLE, rounds=1, table=ONLY, row=BOTH)
        self.assertIsInstance(runner.cells, Cells)
        self.assertEqual((runner.answers(), runner.taking_part()), ({}, ()))
        # Hand 1 writes and reads twice until two of its level have been read, alone: level 2, then 1.
        self.assertEqual(runner.step(1), ("write", 1, 2))
        self.assertEqual(runner.taking_part(), ((1, 7),))
        self.assertEqual(runner.step(hand=1), ("read", 1, 0, None))
        for _ in range(4):
            self.assertEqual(runner.answers(), {})
            runner.step(1)
        self.assertEqual(runner.answers(), {1: 2})
        self.assertEqual(runner.taking_part(), ((1, 7),))
        self.assertIsNone(runner.step(1))
        for at in range(3):
            runner.step(0)
            self.assertEqual(runner.taking_part(), BOTH)
            self.assertEqual(runner.answers(), {1: 2} if at < 2 else {0: 1, 1: 2})

    def test_every_weaving_of_two_hands(self):
        # All ways to go on, step by step, from each moment.
        row = BOTH
        waiting, met, ends = [()], {}, set()
        while waiting:
            weaving = waiting.pop()
            runner = Runner(EXAMPLE, 1, ONLY, row)
            for hand in weaving:
                runner.step(hand)
            self.check(EXAMPLE, 1, ONLY, row, runner, weaving)
            state = kinds([(runner.cells.level(hand, 1), runner.cells.view(hand, 1), runner.cells.found(hand),
                            runner.cells.steps(hand)) for hand in (0, 1)])
            if state in met:
                continue
            met[state] = True
            ends.add(kinds(runner.answers()))
            for hand in (0, 1):
                if runner.cells.ended(hand) == 0:
                    waiting.append(weaving + (hand,))
        self.assertEqual(ends, {kinds(told) for told in ({}, {0: 0}, {1: 2}, {0: 1}, {1: 1}, {0: 0, 1: 1}, {0: 1, 1: 1},
                                                         {0: 1, 1: 2})})

    def check(self, task, rounds, table, row, runner, weaving):
        twin = Cells(row, rounds)
        twin.run(weaving)
        part = tuple(pair for pair in row if pair[0] in weaving)
        self.assertEqual(runner.taking_part(), part)
        told = runner.answers()
        self.assertEqual(list(told.items()), [(hand, table[hand, twin.view(hand, rounds)]) for hand, _ in row
                                              if twin.ended(hand) == rounds])
        self.assertEqual(runner.cells.weaving(), twin.weaving())
        if told:
            self.assertIs(may_answer(task, part, tuple(told.items())), True)
        told[0] = None
        self.assertIsNot(runner.answers(), told)

    def test_any_weavings(self):
        chance = random.Random(31)
        found = {}
        while len(found) < 6 or min(found.values()) < 4:
            many = chance.randint(1, 3)
            rounds = chance.randint(1, 3 if many < 3 else 2)
            task = some_task(chance, many, chance.randint(1, 2), 2)
            table = some_table(task, rounds, chance)
            if table is None:
                continue
            row = chance.choice(task.inputs())
            found[len(row), rounds] = found.get((len(row), rounds), 0) + 1
            if found[len(row), rounds] > 12:
                continue
            self.check_weavings(task, rounds, table, row, chance)

    def check_weavings(self, task, rounds, table, row, chance):
        hands = [hand for hand, _ in row]
        most = rounds * len(row) * (len(row) + 1)
        for _ in range(4):
            runner = Runner(task, rounds, table, row)
            going, weaving = chance.sample(hands, chance.randint(1, len(hands))), ()
            favored = chance.choice(going)
            while going:
                hand = chance.choice(going + [favored] * 3 if favored in going else going)
                runner.step(hand)
                weaving += (hand,)
                if runner.cells.steps(hand) == most or chance.random() < 0.02:
                    going.remove(hand)
                if chance.random() < 0.2 or not going:
                    self.check(task, rounds, table, row, runner, weaving)
            for hand in hands:
                if runner.cells.steps(hand) == most:
                    self.assertIn(hand, runner.answers())

    def test_the_table_is_copied(self):
        table = dict(ONLY)
        runner = Runner(EXAMPLE, 1, table, BOTH)
        table.clear()
        for _ in range(3):
            runner.step(0)
            runner.step(1)
        for _ in range(3):
            runner.step(0)
            runner.step(1)
        self.assertEqual(runner.answers(), {0: 1, 1: 1})
        runner.answers().clear()
        self.assertEqual(runner.answers(), {0: 1, 1: 1})
        # Steps of the cells themselves count, too.
        runner = Runner(EXAMPLE, 1, ONLY, BOTH)
        runner.cells.run((0,) * 9)
        self.assertEqual((runner.answers(), runner.taking_part()), ({0: 0}, ((0, 5),)))
        self.assertFalse(runner == 0)

    def test_four_hands(self):
        task = few(4, (0, 1), 4)
        table = longer(task, 0, {(hand, value): value for hand in range(4) for value in (0, 1)})
        chance = random.Random(32)
        for _ in range(10):
            row = chance.choice(task.inputs())
            runner = Runner(task, 1, table, row)
            for _ in range(80):
                runner.step(chance.choice([hand for hand, _ in row]))
                self.assertTrue(may_answer(task, runner.taking_part(), tuple(runner.answers().items()))
                                or not runner.answers())

    def test_wrong_parameters(self):
        no_tables = [None, True, (), {}, {**ONLY, (1, ((1, 7),)): 3}, {**ONLY, (0, ((0, 5),)): False}]
        self.wrong(Runner, [EXAMPLE, 1, ONLY, BOTH], (BadTask, NO_TASKS), (BadRounds, NO_TASK_ROUNDS + [0]),
                   (NoTable, no_tables), (BadInput, NO_ROWS + [((0, 6),), ((0, 5), (2, 7))]))
        self.assertEqual(self.told(TooMany, Runner, WIDE, 2, None, None).most, 6000)
        self.told(BadRounds, Runner, WIDE, 0, None, None)
        runner = Runner(EXAMPLE, 1, ONLY, ((0, 5),))
        for hand in NO_HAND + [1, 2]:
            self.told(BadHand, runner.step, hand)
        self.assertEqual(runner.taking_part(), ())
        for _ in range(4):
            runner.step(0)
        self.assertEqual(runner.answers(), {0: 0})


if __name__ == "__main__":
    unittest.main()
