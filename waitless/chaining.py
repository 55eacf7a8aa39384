"""Chaining: one task behind another, and their tables one behind the other."""

from waitless.asking import ask_rounds
from waitless.errors import BadChain
from waitless.pictures import ask_few_facets
from waitless.tables import ask_table, task_corners, TABLE_ROUNDS_MOST
from waitless.tasks import ask_task, Task


def chained(task, other):
    """The Task in which what answers task is the input of other, and what answers this is answered."""
    ask_task(task)
    ask_task(other)
    ask_chain(task, other)
    table = {}
    for row in task.inputs():
        found = {answer: True for between in task.answers(row) for answer in other.answers(between)}
        table[row] = list(found)
    return Task(task.many, table)


def chained_table(task, rounds, one, other, more, two):
    """The table of chained(task, other) in which all answer by one first, and by two what is told so."""
    ask_task(task)
    ask_rounds(rounds, TABLE_ROUNDS_MOST)
    ask_task(other)
    ask_chain(task, other)
    ask_rounds(more, TABLE_ROUNDS_MOST - rounds)
    ask_few_facets(task.inputs(), rounds + more)
    ask_few_facets(other.inputs(), more)
    ask_table(task, rounds, one)
    ask_table(other, more, two)
    found = {}
    for hand, view in task_corners(task, rounds + more):
        found[(hand, view)] = two[(hand, with_answers(one, hand, view, more))]
    return found


def ask_chain(task, other):
    """BadChain unless both have the same many, and each answer of task is an input of other."""
    every = [answer for row in task.inputs() for answer in task.answers(row)]
    if task.many != other.many or not all([other.has(answer) for answer in every]):
        raise BadChain("each answer of the one task is an input of the other, of the same many")


def with_answers(table, hand, view, back):
    """View with what table tells of the views so many rounds back in their places."""
    if back == 0:
        return table[(hand, view)]
    return tuple([(pair[0], with_answers(table, pair[0], pair[1], back - 1)) for pair in view])
