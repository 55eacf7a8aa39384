"""Webfalls: falls of what is answered on webs, walked to in too few rounds."""

from waitless.asking import ask_rounds
from waitless.between import fall_along, fall_between
from waitless.errors import Enough
from waitless.falls import answered_behind
from waitless.rows import part_with
from waitless.sinking import cut, places_along, sum_along
from waitless.webs import are_enough, asked_web, may_be_on, paper_of

SIDES = ((0, 1), (1, 2), (0, 2))


def web_fall(many, places, ties, rounds, answer):
    """A fall of what answer tells on a web, so many rounds not being enough."""
    web = asked_web(many, places, ties)
    ask_rounds(rounds)
    if are_enough(many, web, rounds):
        raise Enough("so many rounds are enough on this web")
    paper = paper_of(many, web)
    if paper is None:
        low, high = web.farthest(list(range(places)))
    elif paper[0] == "apart":
        low, high = paper[1:]
    else:
        return fall_around(web, paper[1], rounds, answer)
    return fall_between(many, low, high, rounds, answer, lambda row, told: may_be_on(web, row, told))


def fall_around(web, ring, rounds, answer):
    """A fall of three hands on a web with a ring.

    What is answered along the sides of an input goes over the first tie of the ring so and so often. From input to
    input around the ring this comes to just once, so that for one of them it is odd, and for a part of it in each
    round, down to one course.
    """
    weights = weights_of_tie(web, (ring[0], ring[1]))
    counts = {}
    for at in range(len(ring)):
        one, other = ring[at], ring[(at + 1) % len(ring)]
        for row in (((0, ring[0]), (1, one), (2, other)), ((0, ring[0]), (1, other), (2, other))):
            sides = [part_with(row, hands) for hands in SIDES]
            for side in sides:
                if side not in counts:
                    places = places_along(answer, side[0], side[1], rounds)
                    fall = fall_along(side, rounds, places, lambda some, told: may_be_on(web, some, told))
                    if fall is not None:
                        return fall
                    counts[side] = sum_along(places, weights)
            if sum([counts[side] for side in sides]) % 2 == 1:
                return fall_in(row, rounds, answer, weights)
    return None


def fall_in(row, rounds, answer, weights):
    """A fall of an input of three hands around which the weights are odd."""
    course = ()
    while len(course) < rounds:
        course = course + cut(row, course, rounds, answer, 2, weights)
    return (row, course, answered_behind(answer, row, course))


def weights_of_tie(web, tie):
    """The dict from all pairs of two hands with places that stand close to 1, if they are the ends of tie, or 0."""
    weights = {}
    for low, high in SIDES:
        for one in web.tied:
            for other in [one] + web.tied[one]:
                weights[((low, one), (high, other))] = int((one, other) in (tie, tie[::-1]))
    return weights
