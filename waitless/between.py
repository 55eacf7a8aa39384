"""Between: few corners from who saw one value alone to who saw another one alone, and falls along them."""

from waitless.courses import course_seen
from waitless.falls import answered_behind
from waitless.lines import course_at
from waitless.rows import hands_in
from waitless.sinking import corners_along, lone_course, places_along, tie_at
from waitless.views import row_seen


def steps_between(many, rounds):
    """How many steps lie at least between hands that saw themselves alone, of two hands or of more."""
    steps = 1
    for _ in range(rounds):
        if many == 2:
            steps = 3 * steps
        else:
            steps = 2 * steps
    return steps


def rounds_between(many, steps):
    """The least number of rounds behind which so many steps or more lie between; 0 for one hand."""
    rounds = 0
    while many > 1 and steps_between(many, rounds) < steps:
        rounds += 1
    return rounds


def corners_between(many, low, high, rounds):
    """The list of as few corners as can be from hand 0 that saw low alone to hand 1 that saw high alone."""
    if many == 2:
        return corners_along((0, low), (1, high), rounds)
    return [facet[first] for first, _, facet in steps_of_three(low, high, rounds)] + [alone_at(1, high, rounds)]


def alone_at(hand, value, rounds):
    """The corner of a hand that has seen its own value alone."""
    view = value
    for _ in range(rounds):
        view = ((hand, view),)
    return (hand, view)


def steps_of_three(low, high, rounds):
    """The list of triples of two hands and a facet with the two corners between which a step is, one behind the other.

    Two hands alone are farther apart; but a third one that saw all stands beside both that saw themselves alone.
    """
    steps = [(0, 1, ((0, low), (1, high), (2, low)))]
    for _ in range(rounds):
        found = []
        for first, second, facet in steps:
            third = 3 - first - second
            found.append((first, third, with_one_alone(facet, first)))
            found.append((third, second, with_one_alone(facet, second)))
        steps = found
    return steps


def with_one_alone(facet, hand):
    """The facet behind one round more in which hand comes first, alone, and all others see all."""
    return tuple([(pair[0], (pair,) if pair[0] == hand else facet) for pair in facet])


def fall_between(many, low, high, rounds, answer, is_right):
    """The first fall on the way from hand 0 that saw low alone to hand 1 that saw high alone, None if there is none.

    is_right tells of an input and a row of answers whether this is an answer to it.
    """
    if many == 2:
        row = ((0, low), (1, high))
        return fall_along(row, rounds, places_along(answer, row[0], row[1], rounds), is_right)
    for pair in ((0, low), (1, high)):
        told = answered_behind(answer, (pair,), lone_course(pair[0], rounds))
        if not is_right((pair,), told):
            return ((pair,), lone_course(pair[0], rounds), told)
    for _, _, facet in steps_of_three(low, high, rounds):
        row = row_seen(rounds, facet)
        course = course_seen(row, rounds, facet)
        told = answered_behind(answer, row, course)
        if not is_right(row, told):
            return (row, course, told)
    return None


def fall_along(row, rounds, places, is_right):
    """The first fall of an input of two hands, or of one of them alone, places being what they answer along it."""
    for pair, place in zip(row, (places[0], places[-1])):
        if not is_right((pair,), (place,)):
            return ((pair,), lone_course(pair[0], rounds), (place,))
    for at in range(len(places) - 1):
        if not is_right(row, tie_at(places, at)):
            return (row, course_at(hands_in(row), rounds, at), tie_at(places, at))
    return None
