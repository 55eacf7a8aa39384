"""[110]: texts of rows, courses, weavings and tasks."""

import itertools
import random
import time

from tests.helping import NO_HANDS, NO_ROWS, NO_TASKS, ODD, TASK, Case, kinds, plain_courses
from waitless.errors import BadCourse, BadHands, BadRow, BadTask, BadText, BadWeaving
from waitless.making import few, near
from waitless.tasks import Task
from waitless.texts import (course_text, read_course, read_row, read_task, read_weaving, row_text, task_text, weaving_text)

EXAMPLE = Task(2, {((0, 5),): [((0, 2),), ((0, 10),)], ((1, 70),): [((1, 0),)], ((0, 5), (1, 70)): [((0, 2), (1, 0))]})
TEXT = "hands 2\n0:5 -> 0:2 / 0:10\n1:70 -> 1:0\n0:5 1:70 -> 0:2 1:0"
SIGNS = "0123456789:;|/->- \nhands\t,.+"


def some_row(chance, hands=4):
    chosen = sorted(chance.sample(range(hands), chance.randint(1, hands)))
    return tuple((hand, chance.choice((0, 7, 10, 999999999, chance.randint(0, 10 ** 9 - 1)))) for hand in chosen)


def some_task(chance):
    many = chance.randint(1, 4)
    inputs = {}
    for _ in range(chance.randint(1, 3)):
        row = some_row(chance, many)
        for size in range(1, len(row) + 1):
            for part in itertools.combinations(row, size):
                inputs[part] = True
    table = {}
    for row in inputs:
        answers = {tuple((hand, chance.randint(0, 20)) for hand, _ in row) for _ in range(chance.randint(1, 4))}
        table[row] = sorted(answers)
    return Task(many, table)


def text_changes(text):
    """Texts with one sign put in, left out or exchanged."""
    for at in range(len(text) + 1):
        for sign in SIGNS:
            yield text[:at] + sign + text[at:]
            yield text[:at] + sign + text[at + 1:]
        yield text[:at] + text[at + 1:]
        yield text[:at] + text[at:at + 2][::-1] + text[at + 2:]


class Texts(Case):
    def test_by_hand(self):
        self.assertEqual(self.same(row_text, "row", ((0, 0), (2, 17))), "0:0 2:17")
        self.assertEqual(self.same(course_text, "hands course", (0, 1, 3), (((0, 3), (1,)), ((1,), (0,), (3,)))), "03|1;1|0|3")
        self.assertEqual(course_text((0,), ()), "-")
        self.assertEqual(self.same(weaving_text, "weaving", (0, 3, 3, 1)), "0331")
        self.assertEqual(weaving_text(()), "-")
        self.assertEqual(self.same(task_text, "task", EXAMPLE), TEXT)
        self.assertEqual(self.same(read_row, "text", "0:0 2:17"), ((0, 0), (2, 17)))
        self.assertEqual(self.same(read_course, "hands text", (0, 1, 3), "03|1;1|0|3"), (((0, 3), (1,)), ((1,), (0,), (3,))))
        self.assertEqual((read_course((0,), "-"), read_weaving("-")), ((), ()))
        self.assertEqual(self.same(read_weaving, "text", "0331"), (0, 3, 3, 1))
        self.assertEqual(self.same(read_task, "text", TEXT), EXAMPLE)

    def test_rows_there_and_back(self):
        chance = random.Random(1101)
        for _ in range(300):
            row = some_row(chance)
            self.assertEqual(row_text(row), " ".join(str(hand) + ":" + str(value) for hand, value in row))
            self.assertEqual(kinds(read_row(row_text(row))), kinds(row))

    def test_courses_there_and_back(self):
        chance = random.Random(1102)
        met = {}
        for hands in ((0,), (2,), (0, 1), (1, 3), (0, 1, 2), (0, 1, 2, 3)):
            for course in plain_courses(hands, 1) + [()] + plain_courses(hands[:3], 2)[:100]:
                if course and sorted(hand for block in course[0] for hand in block) != list(hands):
                    continue
                text = course_text(hands, course)
                self.assertEqual(kinds(read_course(hands, text)), kinds(course))
                self.assertEqual(met.setdefault((hands, text), course), course)
        every = plain_courses((0, 1, 2, 3), 1)
        for rounds in (39, 40):
            course = tuple(chance.choice(every)[0] for _ in range(rounds))
            self.assertEqual(read_course((0, 1, 2, 3), course_text((0, 1, 2, 3), course)), course)
        self.told(BadText, read_course, (0, 1), ";".join(["0|1"] * 41))

    def test_weavings_there_and_back(self):
        for length in range(5):
            for weaving in itertools.product(range(4), repeat=length):
                text = weaving_text(weaving)
                self.assertEqual(text, "".join(map(str, weaving)) or "-")
                self.assertEqual(kinds(read_weaving(text)), kinds(weaving))
        self.assertEqual(len(read_weaving("0123" * 1000)), 4000)

    def test_tasks_there_and_back(self):
        chance = random.Random(1103)
        for task in [some_task(chance) for _ in range(150)] + [near(2, 4), few(3, (0, 2, 9), 2), near(4, 1), TASK]:
            text = task_text(task)
            self.assertEqual(read_task(text), task)
            lines = text.split("\n")
            self.assertEqual((lines[0], len(lines)), ("hands " + str(task.many), len(task.inputs()) + 1))
            for line, row in zip(lines[1:], task.inputs()):
                told = " / ".join(row_text(answer) for answer in task.answers(row))
                self.assertEqual(line, row_text(row) + " -> " + told)

    def test_changed_rows(self):
        for row in (((0, 0),), ((0, 5), (1, 70)), ((1, 10), (3, 999999999))):
            for text in text_changes(row_text(row)):
                self.check_read(read_row, text, row_text)
        for text in ("", " ", "0", "0:", ":5", "0:05", "00:5", "0:5 ", " 0:5", "0:5  1:7", "1:7 0:5", "0:5 0:6", "4:5", "0:-5", "0:+5", "0:5,1:7",
                     "0:1000000000", "0:0000000005", "0:1234567890", "0: 5", "0 :5", "0:5\n", "0:5:6", "0:\u0665", "0:\u00b2", "-", "0:5;1:7",
                     "0:1_0", "0:5.0", "0:1e3", "0:5 1", "10:5"):
            self.assertEqual(self.told(BadText, read_row, text).line, 0)
        for thing in ODD:
            self.assertEqual(kinds(self.told(BadText, read_row, thing).line), "0")

    def check_read(self, read, text, written, *first):
        """What is read has just this text; else BadText(0)."""
        try:
            found = read(*first, text)
        except BadText as raised:
            self.assertEqual(kinds(raised.line), "0")
            return
        self.assertEqual(written(*first, found), text)

    def test_changed_courses_and_weavings(self):
        for hands, course in (((0, 1), (((0, 1),), ((1,), (0,)))), ((0, 2, 3), (((0, 3), (2,)),)), ((1,), ())):
            for text in text_changes(course_text(hands, course)):
                self.check_read(read_course, text, course_text, hands)
        for weaving in ((), (0,), (0, 3, 1)):
            for text in text_changes(weaving_text(weaving)):
                self.check_read(read_weaving, text, weaving_text)
        for text in ("", " ", "10", "0|1|", "|0|1", "0||1", "0|1;", ";0|1", "0|1;;0|1", "0|1 ", "0", "0|1|0", "0|2", "01;-", "-;01", "--", "0|1\n", "0,1"):
            self.assertEqual(self.told(BadText, read_course, (0, 1), text).line, 0)
        for text in ("", " ", "4", "0 1", "0-", "-0", "--", "01\n", "0\u0661", "a", "0,1"):
            self.assertEqual(self.told(BadText, read_weaving, text).line, 0)
        for thing in ODD:
            if thing != "0" and thing != "01":
                self.assertEqual(kinds(self.told(BadText, read_weaving, thing).line), "0")
            self.assertEqual(kinds(self.told(BadText, read_course, (0, 1, 2), thing).line), "0")

    def test_changed_tasks(self):
        for text in [TEXT, task_text(Task(1, {((0, 0),): [((0, 0),)]}))]:
            for other in text_changes(text):
                try:
                    task = read_task(other)
                except BadText as raised:
                    self.assertEqual(raised.line, self.plain_wrong_line(other), other)
                    continue
                self.assertEqual(task_text(task), other)
                self.assertIsNone(self.plain_wrong_line(other))

    def plain_wrong_line(self, text):
        """The number of the line that is told, None if the text is that of a task."""
        lines = text.split("\n")
        if lines[0] not in ("hands 1", "hands 2", "hands 3", "hands 4"):
            return 0
        table, last = {}, (0, ())
        for number, line in enumerate(lines):
            if number == 0:
                continue
            try:
                head, tail = line.split(" -> ")
                row, answers = read_row(head), [read_row(word) for word in tail.split(" / ")]
            except ValueError:
                return number
            hands = [hand for hand, _ in row]
            if (len(row), row) <= last or answers != sorted(set(answers)):
                return number
            if any([hand for hand, _ in answer] != hands for answer in answers):
                return number
            last = (len(row), row)
            table[row] = answers
        try:
            Task(int(lines[0][6:]), table)
        except ValueError:
            return len(lines) - 1
        return None

    def test_lines_of_tasks_that_are_told(self):
        lines = TEXT.split("\n")
        told = [("", 0), ("hands 2", 0), ("hands 0\n0:0 -> 0:0", 0), ("hands 5\n0:0 -> 0:0", 0), ("hands 02\n0:0 -> 0:0", 0),
                ("hands  2\n0:0 -> 0:0", 0), (" hands 2\n0:0 -> 0:0", 0), ("Hands 2\n0:0 -> 0:0", 0), ("hands 2 \n0:0 -> 0:0", 0),
                (TEXT + "\n", 4), (TEXT.replace("\n1", "\n\n1"), 2), ("\n" + TEXT, 0),
                ("\n".join([lines[0], lines[2], lines[1], lines[3]]), 2), ("\n".join([lines[0], lines[1], lines[3], lines[2]]), 3),
                ("\n".join(lines[:2] + lines[1:]), 2), ("\n".join([lines[0]] + lines[2:]), 2), ("\n".join(lines[:1] + lines[3:]), 1),
                (TEXT.replace("0:2 / 0:10", "0:10 / 0:2"), 1), (TEXT.replace("0:2 / 0:10", "0:2 / 0:2"), 1),
                (TEXT.replace("0:2 / 0:10", "0:2/0:10"), 1), (TEXT.replace("0:2 / 0:10", ""), 1), (TEXT.replace("0:2 / 0:10", "1:2"), 1),
                (TEXT.replace("0:2 / 0:10", "0:2 / "), 1), (TEXT.replace("1:70 -> 1:0", "1:70 ->1:0"), 2),
                (TEXT.replace("1:0\n", "1:0 1:1\n"), 2), (TEXT.replace("0:5 1:70 ->", "0:5  1:70 ->"), 3),
                (TEXT.replace("-> 0:2 1:0", "-> 0:2"), 3), (TEXT.replace("-> 0:2 1:0", "-> 0:2 1:00"), 3),
                (TEXT.replace("-> 0:2 1:0", "-> 0:2 1:1234567890"), 3), (TEXT.replace("hands 2", "hands 1"), 3),
                ("hands 1\n1:0 -> 1:0", 1), ("hands 1\n0:0 -> 0:0\n1:0 -> 1:0\n2:0 -> 3:0", 3), (TEXT + "\n0:5 2:1 -> 0:0 2:0", 4),
                (TEXT.replace("\n", "\r\n"), 0), (TEXT.replace("->", "=>"), 1)]
        for text, line in told:
            self.assertEqual(kinds(self.told(BadText, read_task, text).line), kinds(line), text)
            self.assertEqual(self.plain_wrong_line(text), line)
        self.assertEqual(read_task(TEXT.replace("hands 2", "hands 4")).many, 4)
        for thing in ODD:
            raised = self.told(BadText, read_task, thing)
            self.assertEqual(kinds(raised.line), kinds(0 if isinstance(thing, str) else None))

    def test_unlike_things_have_unlike_texts(self):
        chance = random.Random(1104)
        rows = {row_text(row): row for row in (some_row(chance) for _ in range(300))}
        self.assertEqual(len(rows), len(set(rows.values())))
        tasks = [some_task(chance) for _ in range(80)]
        for one, other in itertools.combinations(tasks, 2):
            self.assertEqual(task_text(one) == task_text(other), one == other)

    def test_wrong_parameters(self):
        self.wrong(row_text, [((0, 5),)], (BadRow, NO_ROWS))
        no_courses = [None, True, 0, [], [((0, 1),)], ((0, 1),), (((0,),),), (((0, 1), (1,)),), (((1, 0),),), ((),), (((0, 1),),) * 41]
        self.wrong(course_text, [(0, 1), (((0, 1),),)], (BadHands, NO_HANDS), (BadCourse, no_courses))
        no_weavings = [None, True, 0, [], [0], (4,), (-1,), (True,), ("0",), (0, None), {0: 1}, "01", ((0,),), (0.0,)]
        self.wrong(weaving_text, [(0, 1)], (BadWeaving, no_weavings))
        self.wrong(task_text, [EXAMPLE], (BadTask, NO_TASKS))
        self.wrong(read_course, [(0, 1), "01"], (BadHands, NO_HANDS), (BadText, [None, 0, "", "10", [], ("01",)]))

    def test_great_tasks(self):
        begun = time.monotonic()
        for task in (few(4, (0, 1, 2, 3), 4), near(3, 8), few(4, (0, 1, 2), 2)):
            self.assertEqual(read_task(task_text(task)), task)
        self.assertLess(time.monotonic() - begun, 60)
