"""Tasks whose inputs are all rows of some hands with certain values."""

from waitless.asking import ask_many
from waitless.errors import BadMost, BadPlaces, BadTies, BadTop, BadValues, TooMany
from waitless.judging import is_from, is_pair, is_rising, is_value
from waitless.rows import hands_in
from waitless.tasks import Task

INPUTS_MOST = 1000
VALUES_MOST = 9


def agreement(many, values):
    """The Task in which all answer with one value, the same one, which is an input of some hand."""
    ask_many(many)
    ask_values(values)
    ask_few_inputs(many, len(values))
    return task_of(many, values, lambda row: [(value,) for value in values_in(row)])


def few(many, values, most):
    """The Task in which all answer with inputs of some hands, at most so many unlike ones."""
    ask_many(many)
    ask_values(values)
    if not is_from(most, 1, 4):
        raise BadMost("most is a number from 1 to 4")
    ask_few_inputs(many, len(values))
    return task_of(many, values, lambda row: groups_of(values_in(row), most))


def near(many, top):
    """The Task in which answers are between the inputs, and any two at most 1 apart."""
    ask_many(many)
    if not is_from(top, 0, VALUES_MOST):
        raise BadTop("top is a number from 0 to 9")
    ask_few_inputs(many, top + 1)
    return task_of(many, tuple(range(top + 1)), lambda row: neighbours_between(values_in(row)))


def on_web(many, places, ties):
    """The Task in which places that stand close are answered, and inputs if these stand close."""
    ask_many(many)
    if not is_from(places, 1, VALUES_MOST):
        raise BadPlaces("places is a number from 1 to 9")
    if not are_ties(places, ties):
        raise BadTies("ties are an ascending tuple of unlike pairs of places, the lower one first")
    ask_few_inputs(many, places)
    values = tuple(range(places))
    return task_of(many, values, lambda row: close_groups(places, ties, values_in(row)))


def ask_values(values):
    """BadValues unless values is an ascending tuple of one to nine unlike numbers."""
    right = isinstance(values, tuple) and 1 <= len(values) <= VALUES_MOST
    if not right or not all([is_value(value) for value in values]) or not is_rising(values):
        raise BadValues("values are an ascending tuple of one to nine unlike numbers")


def ask_few_inputs(many, values):
    """TooMany(1000) if so many hands with so many values make more inputs than that."""
    inputs = 1
    for _ in range(many):
        inputs = inputs * (values + 1)
    if inputs - 1 > INPUTS_MOST:
        raise TooMany(INPUTS_MOST)


def are_ties(places, ties):
    """Whether ties is an ascending tuple of unlike pairs of places, the lower one first."""
    if not isinstance(ties, tuple) or not all([is_pair(tie) for tie in ties]):
        return False
    if not all([is_from(tie[1], 0, places - 1) and is_from(tie[0], 0, tie[1] - 1) for tie in ties]):
        return False
    return is_rising(ties)


def task_of(many, values, groups_for):
    """The Task with all rows of such values, whose answers have all their values in one of the row's groups."""
    table = {}
    for row in all_rows(many, values):
        table[row] = rows_within(hands_in(row), groups_for(row))
    return Task(many, table)


def all_rows(many, values):
    """The list of all rows of hands below many with such values."""
    rows = [()]
    for hand in range(many):
        rows = rows + [row + ((hand, value),) for row in rows for value in values]
    return rows[1:]


def rows_within(hands, groups):
    """The list of the unlike rows of hands all values of which are in one of groups."""
    found = {}
    for group in groups:
        rows = [()]
        for hand in hands:
            rows = [row + ((hand, value),) for row in rows for value in group]
        for row in rows:
            found[row] = True
    return list(found)


def values_in(row):
    """The ascending tuple of the unlike values of row."""
    return tuple(sorted(set([pair[1] for pair in row])))


def groups_of(values, most):
    """The list of the groups of so many values, or of all if there are no more."""
    if len(values) <= most:
        return [values]
    groups = [()]
    for value in values:
        groups = groups + [group + (value,) for group in groups if len(group) < most]
    return [group for group in groups if len(group) == most]


def neighbours_between(values):
    """The list of the pairs of neighbours from the least to the greatest one of values."""
    if len(values) == 1:
        return [values]
    return [(low, low + 1) for low in range(values[0], values[-1])]


def close_groups(places, ties, values):
    """The list of the groups of places that may be answered together, values being the inputs."""
    let = tuple(range(places))
    if len(values) == 1 or values in ties:
        let = values
    return [(place,) for place in let] + [tie for tie in ties if tie[0] in let and tie[1] in let]
