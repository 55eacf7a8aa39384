"""New tasks from old ones."""

from waitless.errors import BadHands, BadPair, BadRenaming
from waitless.judging import are_hands_of, is_number, is_value
from waitless.matching import matched_values
from waitless.rows import hands_in, one_less, part_with
from waitless.tasks import ask_task, Task

PAIR_BASE = 1000


def restricted(task, hands):
    """The Task with the inputs of these hands alone, and their answers."""
    ask_task(task)
    if not are_hands_of(hands_taking(task), hands):
        raise BadHands("the hands are an ascending tuple of hands that stand in inputs")
    table = task.table()
    return Task(task.many, {row: table[row] for row in table if part_with(row, hands) == row})


def both(one, other):
    """The Task in which each hand has an input of each of the two Tasks, and answers both."""
    ask_task(one)
    ask_task(other)
    if not are_pairable(one, other):
        raise BadPair("both have the same many, values below 1000, and inputs of the same hands")
    first = one.table()
    second = rows_by_hands(other.inputs())
    table = {}
    for row in first:
        for match in second.get(hands_in(row), []):
            table[paired(row, match)] = [paired(x, y) for x in first[row] for y in other.answers(match)]
    return Task(one.many, table)


def renamed(task, renaming):
    """The Task in which hands, inputs and answers are renamed."""
    ask_task(task)
    if not is_renaming(renaming) or not is_renaming_of(task, renaming):
        raise BadRenaming("a renaming tells what the hands, inputs and answers of the task become")
    hands, inputs, answers = renaming
    table = task.table()
    changed = {}
    for row in table:
        changed[renamed_row(row, hands, inputs)] = [renamed_row(answer, hands, answers) for answer in table[row]]
    return Task(task.many, changed)


def renaming_to(one, other):
    """A renaming by which the Task one becomes other, None if there is none."""
    ask_task(one)
    ask_task(other)
    if one.many != other.many:
        return None
    for hands in all_sequences(one.many):
        found = matched_values(one, other, hands)
        if found is not None:
            return (hands, found[0], found[1])
    return None


def trimmed(task):
    """The Task without the answers that greater inputs cannot go on with, None if an input has none left."""
    ask_task(task)
    left = task.table()
    # The greatest rows come first, so that what is left to them does not change any more.
    for row in task.inputs()[::-1]:
        for lesser in one_less(row):
            carried = {part_with(answer, hands_in(lesser)): True for answer in left[row]}
            left[lesser] = [answer for answer in left[lesser] if answer in carried]
    if not all([len(left[row]) > 0 for row in left]):
        return None
    return Task(task.many, left)


def hands_taking(task):
    """The ascending tuple of the hands that stand in inputs."""
    return tuple(sorted(set([hand for row in task.inputs() for hand in hands_in(row)])))


def values_of_task(task):
    """The pair of the ascending lists of the values in inputs and of those in answers."""
    table = task.table()
    inputs = sorted(set([pair[1] for row in table for pair in row]))
    answers = sorted(set([pair[1] for row in table for answer in table[row] for pair in answer]))
    return (inputs, answers)


def are_pairable(one, other):
    """Whether a Task of both can be made."""
    values = [value for task in (one, other) for told in values_of_task(task) for value in told]
    if one.many != other.many or max(values) >= PAIR_BASE:
        return False
    # With an input its parts are inputs, so that one common hand is a row of the same hands.
    return any([hand in hands_taking(other) for hand in hands_taking(one)])


def rows_by_hands(rows):
    """The dict from hands to the list of those of rows that have just these hands."""
    found = {}
    for row in rows:
        found.setdefault(hands_in(row), []).append(row)
    return found


def paired(one, other):
    """The row in which each hand has its values of both rows, which have the same hands."""
    return tuple([(x[0], PAIR_BASE * x[1] + y[1]) for x, y in zip(one, other)])


def is_renaming(thing):
    """Whether thing is a renaming, of any value."""
    if not isinstance(thing, tuple) or len(thing) != 3:
        return False
    hands, inputs, answers = thing
    if not isinstance(hands, tuple) or not 1 <= len(hands) <= 4:
        return False
    if not all([is_number(hand) for hand in hands]) or sorted(hands) != list(range(len(hands))):
        return False
    return is_exchange(inputs) and is_exchange(answers)


def is_exchange(thing):
    """Whether thing is a dict from numbers to numbers, no two of which become the same."""
    if not isinstance(thing, dict):
        return False
    if not all([is_value(old) and is_value(new) for old, new in thing.items()]):
        return False
    return len(set(list(thing.values()))) == len(thing)


def is_renaming_of(task, renaming):
    """Whether a renaming tells of each hand and value of task what it becomes."""
    hands, inputs, answers = renaming
    values = values_of_task(task)
    if len(hands) != task.many or not all([value in inputs for value in values[0]]):
        return False
    return all([value in answers for value in values[1]])


def renamed_row(row, hands, values):
    """The row in which hands and values have become what the two tell."""
    return tuple(sorted([(hands[hand], values[value]) for hand, value in row]))


def all_sequences(many):
    """The ascending list of all sequences of the numbers below many."""
    found = [()]
    for _ in range(many):
        found = [some + (hand,) for some in found for hand in range(many) if hand not in some]
    return found
