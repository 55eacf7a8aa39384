"""Tasks: which answers are let for which inputs of those that take part."""

from waitless.asking import ask_many
from waitless.errors import BadInput, BadTable, BadTask
from waitless.judging import is_list, is_rowlike
from waitless.rows import by_length, hands_in, is_within, one_less


class Task:
    """A task of so many hands: its inputs, and the answers to each of them."""

    def __init__(self, many, table):
        ask_many(many)
        if not is_task_table(many, table):
            raise BadTable("a table is a dict from rows, with all their parts, to lists of rows of the same hands")
        self.many = many
        self._answers = {row: tuple(sorted(table[row])) for row in sorted(table, key=by_length)}

    def __eq__(self, other):
        return isinstance(other, Task) and self.many == other.many and self._answers == other._answers

    def inputs(self):
        """The list of the inputs, ascending by length, then as tuples."""
        return list(self._answers)

    def has(self, row):
        """Whether row is an input, of any value."""
        return is_rowlike(row) and row in self._answers

    def answers(self, row):
        """The list of the answers to the input row, ascending."""
        if not self.has(row):
            raise BadInput("the row is no input of the task")
        return list(self._answers[row])

    def table(self):
        """The dict from the inputs, in their sequence, to their answers."""
        return {row: list(self._answers[row]) for row in self._answers}


def is_task_table(many, table):
    """Whether table tells the answers of a task of so many hands."""
    if not isinstance(table, dict) or len(table) == 0:
        return False
    # All keys must be rows before any is looked up: True would be found in the place of 1.
    if not all([is_rowlike(row) and row[-1][0] < many for row in table]):
        return False
    if not all([lesser in table for row in table for lesser in one_less(row)]):
        return False
    return all([are_answers(row, told) for row, told in table.items()])


def are_answers(row, told):
    """Whether told is a list of one or more unlike rows of just the hands of row."""
    if not is_list(told) or len(told) == 0:
        return False
    hands = hands_in(row)
    if not all([is_rowlike(answer) and hands_in(answer) == hands for answer in told]):
        return False
    return len(set(told)) == len(told)


def ask_task(task):
    """BadTask unless task is a Task."""
    if not isinstance(task, Task):
        raise BadTask("this is no Task")


def ask_input(task, row):
    """BadInput unless row is an input of task."""
    if not task.has(row):
        raise BadInput("the row is no input of the task")


def greatest(task):
    """The list of the inputs that are a part of no other input, in the sequence of inputs()."""
    ask_task(task)
    # With an input all its parts are inputs, so that one pair less is enough to look at.
    lesser = {part: True for row in task.inputs() for part in one_less(row)}
    return [row for row in task.inputs() if row not in lesser]


def may_answer(task, row, thing):
    """Whether thing, of any value, is a part of an answer to the input row."""
    ask_task(task)
    ask_input(task, row)
    return is_rowlike(thing) and any([is_within(thing, answer) for answer in task.answers(row)])
