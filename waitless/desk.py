"""Desks: a table of a task run on cells, asked and told in lines of text."""

from waitless.asking import ask_rounds
from waitless.errors import BadRounds, BadText, BadWeaving, NoTable
from waitless.futures import blocks_to_come, leading
from waitless.judging import are_steps_of
from waitless.refuting import table
from waitless.rows import hands_in
from waitless.running import Runner
from waitless.tables import TABLE_ROUNDS_MOST
from waitless.tasks import ask_input, ask_task
from waitless.texts import course_read, text_of_blocks, text_of_course, text_of_row, text_of_weaving, weaving_read
from waitless.weavings import course_of_run

UNKNOWN = "what"


class Desk:
    """A Runner of a table of task for so many rounds on the input row, with answers to lines."""

    def __init__(self, task, rounds, row):
        ask_task(task)
        ask_rounds(rounds, TABLE_ROUNDS_MOST)
        if rounds == 0:
            raise BadRounds("nobody takes a step in no rounds")
        ask_input(task, row)
        told = table(task, rounds)
        if told is None:
            raise NoTable("the task has no table for so many rounds")
        self.task = task
        self.rounds = rounds
        self.row = row
        self.runner = Runner(task, rounds, told, row)

    def say(self, line):
        """The answer to a line."""
        if not isinstance(line, str):
            raise BadText(None)
        word, blank, rest = line.partition(" ")
        if blank == "":
            return self._say_alone(word)
        if word in ("step", "steps", "ended"):
            return self._say_of_hand(word, rest)
        if word == "run":
            return self._run(weaving_read(rest))
        if word == "blocks":
            return self._blocks(rest)
        if word == "lead":
            return self._lead(course_read(hands_in(self.row), rest))
        return UNKNOWN

    def twin(self):
        """A desk that stands as this one does."""
        other = Desk(self.task, self.rounds, self.row)
        runner = other.runner
        runner.cells = self.runner.cells.twin()
        return other

    def _say_alone(self, word):
        """The answer to a line of one word."""
        if word == "answers":
            answers = self.runner.answers()
            return row_told(tuple([(hand, answers[hand]) for hand in answers]))
        if word == "taking":
            return row_told(self.runner.taking_part())
        if word == "course":
            return text_of_course(course_of_run(self.runner.cells))
        if word == "told":
            return text_of_weaving(self.runner.cells.weaving())
        return UNKNOWN

    def _say_of_hand(self, word, figure):
        """The answer to a line of a word and the figure of a hand."""
        found = [hand for hand in hands_in(self.row) if str(hand) == figure]
        if len(found) == 0:
            return UNKNOWN
        if word == "step":
            return step_told(self.runner.step(found[0]))
        if word == "steps":
            return str(self.runner.cells.steps(found[0]))
        return str(self.runner.cells.ended(found[0]))

    def _run(self, weaving):
        """The steps of weaving are done; how many are done in all by now."""
        if not are_steps_of(hands_in(self.row), weaving):
            return UNKNOWN
        self.runner.cells.run(weaving)
        return str(len(self.runner.cells.weaving()))

    def _blocks(self, figure):
        """The blocks that can still come in the round of this figure."""
        for number in range(1, self.rounds + 1):
            if str(number) == figure:
                return " or ".join([text_of_blocks(blocks) for blocks in blocks_to_come(self.runner.cells, number)])
        return UNKNOWN

    def _lead(self, course):
        """A weaving that leads on to course."""
        if course is None or len(course) != self.rounds:
            return UNKNOWN
        weaving = leading(self.runner.cells, course)
        if weaving is None:
            return "barred"
        return text_of_weaving(weaving)


def desk_from(task, rounds, row, weaving):
    """The Desk at which the steps of weaving are done."""
    desk = Desk(task, rounds, row)
    if not are_steps_of(hands_in(row), weaving):
        raise BadWeaving("a weaving is a tuple of hands of the row")
    desk.runner.cells.run(weaving)
    return desk


def row_told(row):
    """The text of a row, which is none for no hands."""
    if len(row) == 0:
        return "none"
    return text_of_row(row)


def step_told(step):
    """The text of a step on cells."""
    if step is None:
        return "ended"
    if step[0] == "write":
        return f"writes {step[2]} in {step[1]}"
    _, number, whose, found = step
    level = "nothing"
    if found is not None:
        level = str(found[1])
    return f"finds {level} of {whose} in {number}"
