"""Nearness: answers at most one step apart, between inputs however far apart."""

from waitless.asking import ask_many, ask_rounds
from waitless.between import alone_at, corners_between, fall_between, rounds_between
from waitless.errors import BadCorner, BadTop, Enough
from waitless.judging import is_list, is_value
from waitless.lines import position_seen
from waitless.making import values_in
from waitless.orders import is_corner
from waitless.rows import hands_in
from waitless.views import row_seen, stands_together


def near_rounds(many, top):
    """The least number of rounds in which near can be done for the inputs from 0 to top."""
    ask_many(many)
    ask_top(top)
    return rounds_between(many, top)


def near_answer(many, rounds, corner):
    """A value to answer at corner, so that all answers are near if there are rounds enough for the inputs."""
    ask_many(many)
    ask_rounds(rounds)
    ask_corner(many, rounds, corner)
    if many != 2:
        return led_to_middle(rounds, corner[1], middle_value)
    seen = row_seen(rounds, (corner,))
    if len(seen) == 1:
        return seen[0][1]
    one, other = seen[0][1], seen[1][1]
    steps = min(position_seen(hands_in(seen), rounds, corner), abs(other - one))
    if other < one:
        return one - steps
    return one + steps


def short_way(many, top, rounds):
    """A short way, None if there is none."""
    ask_many(many)
    ask_top(top)
    ask_rounds(rounds)
    if rounds_between(many, top) <= rounds:
        return None
    return corners_between(many, 0, top, rounds)


def is_short_way(many, top, rounds, thing):
    """Whether thing, of any value, is a short way."""
    ask_many(many)
    ask_top(top)
    ask_rounds(rounds)
    if not is_list(thing) or not 2 <= len(thing) <= top:
        return False
    if not all([is_corner_up_to(many, top, rounds, corner) for corner in thing]):
        return False
    if thing[0] != alone_at(0, 0, rounds) or thing[-1] != alone_at(1, top, rounds):
        return False
    return all([are_of_one_course(rounds, thing[at], thing[at + 1]) for at in range(len(thing) - 1)])


def near_fall(many, top, rounds, answer):
    """A fall of what answer tells, there being too few rounds."""
    ask_many(many)
    ask_top(top)
    ask_rounds(rounds)
    if rounds_between(many, top) <= rounds:
        raise Enough("in so many rounds near answers can be given")
    return fall_between(many, 0, top, rounds, answer, are_near)


def ask_top(top):
    """BadTop unless top is a value."""
    if not is_value(top):
        raise BadTop("top is a number from 0 to 999999999")


def ask_corner(many, rounds, corner):
    """BadCorner unless corner is one behind so many rounds in which hands below many alone were seen."""
    if not is_corner(many, rounds, corner):
        raise BadCorner("this is no corner of the hands for so many rounds")


def is_corner_up_to(many, top, rounds, thing):
    """Whether thing is a corner in which only hands below many with values up to top were seen."""
    return is_corner(many, rounds, thing) and values_in(row_seen(rounds, (thing,)))[-1] <= top


def are_of_one_course(rounds, one, other):
    """Whether two corners stand together at the end of some course."""
    return stands_together(rounds, tuple(sorted([one, other])))


def led_to_middle(rounds, view, middle):
    """The value that a hand comes to that takes in each round the middle of what those whom it sees have come to."""
    if rounds == 0:
        return view
    return middle([led_to_middle(rounds - 1, pair[1], middle) for pair in view])


def middle_value(values):
    """The middle of the least and the greatest of values: whoever sees some of them comes to at most half as far."""
    return (min(values) + max(values)) // 2


def are_near(row, told):
    """Whether told is an answer to row: between its values, and at most one step apart."""
    values, answers = values_in(row), values_in(told)
    return values[0] <= answers[0] and answers[-1] <= values[-1] and answers[-1] - answers[0] <= 1
