"""Tables: what hands may answer by what they have seen, for a number of rounds."""

from waitless.asking import ask_rounds
from waitless.courses import makes_course, views_behind
from waitless.errors import BadCourse, NoTable
from waitless.judging import is_number
from waitless.pictures import all_facets, ask_few_facets, corners_in
from waitless.rows import hands_in
from waitless.tasks import ask_input, ask_task, greatest
from waitless.views import earlier_view, is_built, row_seen

TABLE_ROUNDS_MOST = 3


def corners_of(task, rounds):
    """The ascending list of all corners of task for so many rounds."""
    ask_task(task)
    ask_rounds(rounds, TABLE_ROUNDS_MOST)
    ask_few_facets(task.inputs(), rounds)
    return task_corners(task, rounds)


def choices(task, rounds):
    """The dict from the corners to the ascending tuples of the values that the hand has in answers."""
    ask_task(task)
    ask_rounds(rounds, TABLE_ROUNDS_MOST)
    ask_few_facets(task.inputs(), rounds)
    values = {row: values_answered(task, row) for row in task.inputs()}
    return {corner: values[row_seen(rounds, (corner,))][corner[0]] for corner in task_corners(task, rounds)}


def is_table(task, rounds, thing):
    """Whether thing, of any value, is a table of task for so many rounds."""
    ask_task(task)
    ask_rounds(rounds, TABLE_ROUNDS_MOST)
    ask_few_facets(task.inputs(), rounds)
    return makes_table(task, rounds, thing)


def answered(task, rounds, table, row, course):
    """The row of what the hands of an input row answer behind course by table."""
    ask_task(task)
    ask_rounds(rounds, TABLE_ROUNDS_MOST)
    ask_few_facets(task.inputs(), rounds)
    ask_table(task, rounds, table)
    ask_input(task, row)
    if not makes_course(hands_in(row), course) or len(course) != rounds:
        raise BadCourse("a course of just so many rounds of the row's hands is asked for")
    return tuple([(corner[0], table[corner]) for corner in views_behind(row, course).items()])


def longer(task, rounds, table):
    """The table for one round more in which all answer as at the end of the round before."""
    ask_task(task)
    ask_rounds(rounds, TABLE_ROUNDS_MOST - 1)
    ask_few_facets(task.inputs(), rounds + 1)
    ask_table(task, rounds, table)
    found = {}
    for hand, view in task_corners(task, rounds + 1):
        found[(hand, view)] = table[(hand, earlier_view(hand, view, 1))]
    return found


def ask_table(task, rounds, table):
    """NoTable unless table is one of task for so many rounds."""
    if not makes_table(task, rounds, table):
        raise NoTable("this is no table of the task for so many rounds")


def task_corners(task, rounds):
    """The ascending list of all corners of task."""
    # Each corner of an input is one of each greater input, too.
    return corners_in([facet for row in greatest(task) for facet in all_facets(row, rounds)])


def values_answered(task, row):
    """The dict from the hands of an input row to the ascending tuples of their values in answers."""
    answers = task.answers(row)
    return {hand: tuple(sorted(set([answer[at][1] for answer in answers])))
            for at, hand in enumerate(hands_in(row))}


def makes_table(task, rounds, thing):
    """Whether thing is a table of task for so many rounds."""
    if not isinstance(thing, dict) or not all([is_number(value) for value in thing.values()]):
        return False
    # Keys must be built as corners before any is looked up: True would be found in the place of 1.
    if not all([is_built(rounds, (key,)) for key in thing]):
        return False
    found = task_corners(task, rounds)
    if len(found) != len(thing) or not all([corner in thing for corner in found]):
        return False
    return all([is_right_for(task, rounds, thing, row) for row in task.inputs()])


def is_right_for(task, rounds, table, row):
    """Whether behind all courses of an input row an answer to it is told by table."""
    let = {answer: True for answer in task.answers(row)}
    told = [tuple([(corner[0], table[corner]) for corner in facet]) for facet in all_facets(row, rounds)]
    return all([answer in let for answer in told])
