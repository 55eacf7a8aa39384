"""Easing: the tasks that are done in a round less."""

from waitless.asking import ask_rounds
from waitless.blocks import all_blocks, groups_in, seen_by
from waitless.errors import BadRounds, BadRow
from waitless.judging import are_hands, is_hand, is_number, is_pair, is_rowlike
from waitless.pictures import ask_few_facets
from waitless.refuting import table_puzzle
from waitless.rows import hands_in
from waitless.solving import ask_few_ways, Puzzle, solution
from waitless.tables import ask_table, TABLE_ROUNDS_MOST, task_corners, values_answered
from waitless.tasks import ask_input, ask_task, Task


def easing(task, row, told):
    """An easing of told in the input row, None if there is none."""
    ask_told(task, row, told)
    return solution(easing_puzzle(task, row, told))


def is_easing(task, row, told, thing):
    """Whether thing, of any value, is an easing of told in the input row."""
    ask_told(task, row, told)
    puzzle = easing_puzzle(task, row, told)
    if not isinstance(thing, dict) or not all([is_hand_seeing(key) for key in thing]):
        return False
    if sorted(thing) != list(puzzle.let) or not all([is_number(value) for value in thing.values()]):
        return False
    if not all([thing[(pair[0], (pair[0],))] == pair[1] for pair in told]):
        return False
    return all([tuple([thing[place] for place in places]) in rows for places, rows in puzzle.bonds])


def eased(task):
    """The Task in which the answers to a row are all that have an easing in it."""
    ask_task(task)
    ask_few_easings(task)
    return eased_once(task)


def led_back(task, rounds, table):
    """The table of the eased task for a round less: all answer as if they saw themselves alone once more."""
    ask_task(task)
    ask_rounds(rounds, TABLE_ROUNDS_MOST)
    if rounds == 0:
        raise BadRounds("there is no round less than none")
    ask_few_facets(task.inputs(), rounds)
    ask_table(task, rounds, table)
    return {corner: table[(corner[0], (corner,))] for corner in task_corners(task, rounds - 1)}


def needed(task):
    """How many times task must be eased until it has a table for 0 rounds, None if it never has."""
    ask_task(task)
    ask_few_easings(task)
    puzzle = table_puzzle(task, 0)
    # What hands have in answers stays the same in eased tasks, so that the limits need no further look.
    ask_few_ways(list(puzzle.let.values()))
    times = 0
    while solution(puzzle) is None:
        following = eased_once(task)
        if following == task:
            return None
        task = following
        puzzle = table_puzzle(task, 0)
        times += 1
    return times


def ask_told(task, row, told):
    """What easing and is_easing ask for."""
    ask_task(task)
    ask_input(task, row)
    if not is_rowlike(told) or hands_in(told) != hands_in(row):
        raise BadRow("told is a row of just the hands of the input")
    ask_few_easings(task)


def ask_few_easings(task):
    """TooMany(4096) if some input has more ways than that to tell numbers of all hands that see others."""
    for row in task.inputs():
        seeing = len(groups_in(hands_in(row))) // 2
        ask_few_ways([values for values in values_answered(task, row).values() for _ in range(seeing)])


def easing_puzzle(task, row, told):
    """The Puzzle whose solutions are the easings of told."""
    values = values_answered(task, row)
    let = {}
    for hand, value in told:
        for hands in sorted([group for group in groups_in(hands_in(row)) if hand in group]):
            let[(hand, hands)] = [value] if hands == (hand,) else values[hand]
    answers = [tuple([pair[1] for pair in answer]) for answer in task.answers(row)]
    bonds = [(tuple(list(seen_by(blocks).items())), answers) for blocks in all_blocks(hands_in(row))]
    return Puzzle(let, bonds)


def is_hand_seeing(thing):
    """Whether thing is a pair of a hand and hands."""
    return is_pair(thing) and is_hand(thing[0]) and are_hands(thing[1])


def eased_once(task):
    """The eased Task."""
    return Task(task.many, {row: answers_eased(task, row) for row in task.inputs()})


def answers_eased(task, row):
    """The list of all that has an easing in the input row."""
    answers = task.answers(row)
    if len(row) == 1:
        return answers
    if len(row) == 2:
        return ties_of_three(answers)
    told = {answer: True for answer in answers}
    for one in all_told(values_answered(task, row)):
        # Who answers the same whoever is seen eases an answer, so that only the others are looked at.
        if one not in told and solution(easing_puzzle(task, row, one)) is not None:
            told[one] = True
    return list(told)


def all_told(values):
    """The list of the rows in which each hand has one of its values."""
    rows = [()]
    for hand in values:
        rows = [row + ((hand, value),) for row in rows for value in values[hand]]
    return rows


def ties_of_three(answers):
    """The list of the pairs of places that a walk of three answers leads between: what is told of two hands."""
    over = {}
    back = {}
    for one, other in answers:
        over.setdefault(one, []).append(other)
        back.setdefault(other, []).append(one)
    found = {}
    for one in over:
        middle = {place: True for other in over[one] for place in back[other]}
        ends = {other: True for place in middle for other in over[place]}
        for last in ends:
            found[(one, last)] = True
    return list(found)
