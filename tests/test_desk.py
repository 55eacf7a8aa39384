"""[111]: desks."""

import itertools
import random
import time

from tests.helping import NO_NUMBERS, NO_ROWS, NO_TASKS, ODD, Case, plain_blocks
from tests.test_tables import EXAMPLE
from waitless.cells import Cells
from waitless.desk import Desk, desk_from
from waitless.errors import BadInput, BadRounds, BadTask, BadText, BadWeaving, NoTable, TooMany
from waitless.futures import blocks_to_come, leading
from waitless.making import agreement, near, on_web
from waitless.refuting import table
from waitless.running import Runner
from waitless.tasks import Task, may_answer
from waitless.texts import course_text, read_course, read_row, read_weaving, row_text, weaving_text
from waitless.weavings import course_of_run

BOTH = ((0, 5), (1, 7))
# All hands answer their own input, or a number that nobody is without.
EASY = Task(4, {row: [tuple((hand, 3) for hand, _ in row)]
                for size in range(1, 4) for row in itertools.combinations(((0, 1), (2, 8), (3, 8)), size)})
NO_ROUNDS = NO_NUMBERS + [0, 4, -1, 10 ** 30]


def plain_say(desk, line):
    """What a desk says to a line that is right, by its runner."""
    cells, hands = desk.runner.cells, tuple(hand for hand, _ in desk.row)
    word, _, rest = line.partition(" ")
    if word == "step":
        told = desk.runner.step(int(rest))
        if told is None:
            return "ended"
        if told[0] == "write":
            return "writes " + str(told[2]) + " in " + str(told[1])
        return "finds " + ("nothing" if told[3] is None else str(told[3][1])) + " of " + str(told[2]) + " in " + str(told[1])
    if word == "run":
        for hand in read_weaving(rest):
            desk.runner.step(hand)
        return str(len(cells.weaving()))
    if word == "answers":
        return row_text(tuple(desk.runner.answers().items())) if desk.runner.answers() else "none"
    if word == "taking":
        return row_text(desk.runner.taking_part()) if desk.runner.taking_part() else "none"
    if word == "steps":
        return str(cells.steps(int(rest)))
    if word == "ended":
        return str(cells.ended(int(rest)))
    if word == "blocks":
        return " or ".join(course_text(hands, (blocks,)) for blocks in blocks_to_come(cells, int(rest)))
    if word == "course":
        return course_text(hands, course_of_run(cells))
    if word == "lead":
        weaving = leading(cells, read_course(hands, rest))
        return "barred" if weaving is None else weaving_text(weaving)
    return weaving_text(cells.weaving())


def some_line(chance, desk):
    hands = tuple(hand for hand, _ in desk.row)
    course = tuple(chance.choice(plain_blocks(hands)) for _ in range(desk.rounds))
    if chance.random() < 0.3:
        course = course_of_run(desk.runner.cells)
    weaving = tuple(chance.choice(hands) for _ in range(chance.randint(0, 6)))
    return chance.choice(["step " + str(chance.choice(hands)), "step " + str(chance.choice(hands)), "run " + weaving_text(weaving),
                          "answers", "taking", "steps " + str(chance.choice(hands)), "ended " + str(chance.choice(hands)),
                          "blocks " + str(chance.randint(1, desk.rounds)), "course", "lead " + course_text(hands, course), "told"])


def some_desks():
    return [Desk(EXAMPLE, 1, BOTH), Desk(EXAMPLE, 1, BOTH[:1]), Desk(EASY, 1, ((0, 1), (2, 8), (3, 8))), Desk(EASY, 2, ((0, 1), (3, 8))),
            Desk(EASY, 3, ((2, 8), (3, 8))), Desk(near(2, 1), 1, ((0, 0), (1, 1))), Desk(agreement(3, (4,)), 2, ((0, 4), (1, 4), (2, 4)))]


def standing(desk):
    """All that a desk says without a step."""
    hands = [str(hand) for hand, _ in desk.row]
    lines = ["answers", "taking", "course", "told"] + [word + hand for word in ("steps ", "ended ") for hand in hands]
    return [desk.say(line) for line in lines + ["blocks " + str(at + 1) for at in range(desk.rounds)]]


class Desks(Case):
    def test_by_hand(self):
        desk = Desk(task=EXAMPLE, rounds=1, row=BOTH)
        self.assertEqual((desk.task, desk.rounds, desk.row), (EXAMPLE, 1, BOTH))
        self.assertIsInstance(desk.runner, Runner)
        self.assertIsInstance(desk.runner.cells, Cells)
        self.assertEqual([desk.say(line) for line in ("answers", "taking", "told", "steps 0", "ended 1", "course", "run -")],
                         ["none", "none", "-", "0", "0", "01", "0"])
        self.assertEqual(desk.say(line="blocks 1"), "0|1 or 01 or 1|0")
        self.assertEqual([desk.say("step 0") for _ in range(3)], ["writes 2 in 1", "finds 2 of 0 in 1", "finds nothing of 1 in 1"])
        self.assertEqual([desk.say(line) for line in ("blocks 1", "lead 01", "lead 1|0", "taking", "steps 0")],
                         ["0|1", "barred", "barred", "0:5", "3"])
        self.assertEqual(desk.say("lead 0|1"), weaving_text(leading(desk.runner.cells, (((0,), (1,)),))))
        self.assertEqual([desk.say(line) for line in ("run 000", "ended 0", "answers", "course")], ["6", "1", "0:0", "0|1"])
        self.assertEqual([desk.say(line) for line in ("step 0", "steps 0", "run 0101", "told")], ["ended", "6", "8", "00000011"])
        self.assertEqual([desk.say(line) for line in ("step 1", "taking")], ["finds 2 of 1 in 1", "0:5 1:7"])
        self.assertEqual(desk.say("answers"), "0:0 1:1")
        self.assertEqual([desk.say("lead 0|1"), desk.say("told")], ["-", "000000111"])

    def test_against_the_runner(self):
        chance = random.Random(1111)
        for desk, other in zip(some_desks(), some_desks()):
            for _ in range(150):
                line = some_line(chance, desk)
                self.assertEqual(desk.say(line), plain_say(other, line), line)
                told = desk.say("answers")
                if told != "none":
                    self.assertTrue(may_answer(desk.task, read_row(desk.say("taking")), read_row(told)))
            self.assertEqual(standing(desk), standing(other))

    def test_other_lines(self):
        for desk in some_desks():
            hand, count = str(desk.row[0][0]), str(desk.rounds)
            desk.say("run " + hand * 3)
            before = standing(desk)
            strange = [str(at) for at in range(10) if at not in [one for one, _ in desk.row]]
            lines = ["", " ", "what", "step", "step ", "step  " + hand, "step " + hand + " ", " step " + hand, "Step " + hand, "step 0" + hand,
                     "step " + hand + hand, "step -", "step a", "step +" + hand, "run", "run ", "run  ", "run --", "run a", "run " + hand + " ",
                     "run " + hand + " " + hand, "run " + hand + "-", "answers ", "answer", " answers", "taking " + hand, "steps", "steps ",
                     "ended", "ended  " + hand, "blocks", "blocks 0", "blocks " + str(desk.rounds + 1), "blocks 01", "blocks " + count + " ",
                     "blocks -1", "course ", "course " + count, "lead", "lead ", "lead -", "lead  -", "told ", "told -", "TOLD", "\n", "told\n",
                     "step " + hand + "\n", "blocks " + count + ";", "step \u0660", "x" * 10 ** 5]
            lines += [word + one for word in ("step ", "steps ", "ended ", "run ", "run " + hand) for one in strange]
            whole = course_text(tuple(one for one, _ in desk.row), course_of_run(desk.runner.cells))
            lines += ["lead " + whole + ";" + whole, "lead " + whole + " ", "lead " + whole + ";", "lead " + whole[:-1], "lead |" + whole,
                      "lead " + whole + hand, "lead 9" + whole]
            for line in lines:
                self.assertEqual(desk.say(line), "what", line)
            self.assertEqual(standing(desk), before)
            for thing in ODD:
                if isinstance(thing, str):
                    self.assertEqual(desk.say(thing), "what")
                else:
                    self.assertIsNone(self.told(BadText, desk.say, thing).line)
            self.assertEqual(standing(desk), before)

    def test_twins(self):
        chance = random.Random(1112)
        for desk in some_desks():
            for _ in range(chance.randint(0, 12)):
                desk.say(some_line(chance, desk))
            before = standing(desk)
            twin = desk.twin()
            self.assertIsInstance(twin, Desk)
            self.assertEqual((twin.task, twin.rounds, twin.row, standing(twin)), (desk.task, desk.rounds, desk.row, before))
            hand = desk.row[-1][0]
            desk.runner.step(hand)
            desk.say("run " + weaving_text((desk.row[0][0],) * 5))
            self.assertEqual(standing(twin), before)
            again = desk_from(desk.task, desk.rounds, desk.row, twin.runner.cells.weaving())
            after = standing(desk)
            for _ in range(40):
                line = some_line(chance, twin)
                self.assertEqual(twin.say(line), again.say(line))
            self.assertEqual(standing(desk), after)

    def test_desks_from_what_they_tell(self):
        chance = random.Random(1113)
        for desk in some_desks():
            for _ in range(10):
                for _ in range(chance.randint(1, 4)):
                    desk.say(some_line(chance, desk))
                other = desk_from(task=desk.task, rounds=desk.rounds, row=desk.row, weaving=read_weaving(desk.say("told")))
                self.assertEqual(standing(other), standing(desk))
                line = some_line(chance, desk)
                self.assertEqual(other.say(line), desk.twin().say(line))

    def test_steps_that_are_not_done(self):
        desk = desk_from(EXAMPLE, 1, BOTH, (0,) * 20 + (1,))
        self.assertEqual((desk.say("told"), desk.say("steps 0")), ("0000001", "6"))
        self.assertEqual(desk_from(EXAMPLE, 1, BOTH, ()).say("told"), "-")

    def test_what_is_handed_in_is_kept(self):
        desk = Desk(EXAMPLE, 1, BOTH)
        self.assertEqual(EXAMPLE.table(), desk.task.table())
        self.assertNotEqual(desk, Desk(EXAMPLE, 1, BOTH))

    def test_wrong_parameters(self):
        no_inputs = NO_ROWS + [((0, 6),), ((2, 5),), ((0, 5), (1, 8))]
        self.wrong(Desk, [EXAMPLE, 1, BOTH], (BadTask, NO_TASKS), (BadRounds, NO_ROUNDS), (BadInput, no_inputs))
        no_weavings = [None, True, 0, [], [0], (2,), (-1,), (True,), ("0",), (0, None), {0: 1}, "01", ((0,),), (0.0,)]
        self.wrong(desk_from, [EXAMPLE, 1, BOTH, (0,)], (BadTask, NO_TASKS), (BadRounds, NO_ROUNDS), (BadInput, no_inputs),
                   (BadWeaving, no_weavings))
        self.told(BadWeaving, desk_from, EXAMPLE, 1, BOTH[:1], (0, 1))
        for task, rounds, row in ((agreement(2, (0, 1)), 1, ((0, 0),)), (on_web(3, 3, ((0, 1), (0, 2), (1, 2))), 1, ((0, 0),)),
                                  (near(2, 2), 1, ((0, 0),)), (near(4, 1), 2, ((0, 0),)), (near(2, 9), 3, ((0, 9),))):
            try:
                found = table(task, rounds)
            except TooMany as raised:
                # The row comes ahead, then this, as table tells it; a weaving is looked at behind all else.
                self.assertEqual(self.told(TooMany, Desk, task, rounds, row).most, raised.most)
                self.assertEqual(self.told(TooMany, desk_from, task, rounds, row, None).most, raised.most)
                self.told(BadInput, Desk, task, rounds, ((0, 10),))
            else:
                self.assertIsNone(found)
                self.told(NoTable, Desk, task, rounds, row)
                self.told(NoTable, desk_from, task, rounds, row, None)
                self.told(BadInput, Desk, task, rounds, ((0, 10),))
        self.assertEqual(self.told(TooMany, Desk, near(4, 1), 2, ((0, 0),)).most, 6000)
        self.assertEqual(self.told(TooMany, Desk, near(2, 9), 3, ((0, 0),)).most, 4096)
        self.told(NoTable, Desk, agreement(2, (0, 1)), 1, ((0, 0),))

    def test_long_runs(self):
        begun = time.monotonic()
        chance = random.Random(1114)
        desk = Desk(EASY, 2, ((0, 1), (2, 8), (3, 8)))
        for _ in range(400):
            desk.say(some_line(chance, desk))
        four = Task(4, {row: [tuple((hand, 1) for hand, _ in row)] for size in range(1, 5)
                        for row in itertools.combinations(((0, 0), (1, 0), (2, 0), (3, 0)), size)})
        self.assertEqual(self.told(TooMany, Desk, four, 2, ((0, 0),)).most, 6000)
        desk = Desk(four, 1, ((0, 0), (1, 0), (2, 0), (3, 0)))
        desk.say("run " + "0123" * 20)
        self.assertEqual(desk.say("answers"), "0:1 1:1 2:1 3:1")
        self.assertEqual(desk.twin().say("course"), desk.say("course"))
        self.assertLess(time.monotonic() - begun, 60)
