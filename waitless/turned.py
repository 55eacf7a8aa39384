"""Turned: the looks at one memory that rounds by blocks tell of.

A standing tells, for each hand that is known of, a triple: the number of its last put that is held, its value, and
its looks. Of two triples that are held for a hand at the same time the greater one is never behind the other.
"""

from waitless.asking import ask_hand, ask_many, ask_rounds
from waitless.blocks import seen_by
from waitless.courses import ask_course
from waitless.errors import BadHand, BadLooks, BadView
from waitless.judging import is_from
from waitless.rows import hands_in
from waitless.views import ask_view, row_seen, views_by_round

LOOKS_MOST = 20


def looks_in(many, course, looks):
    """The dict from the hands to the lists of the pairs of a round and the look that ends with it."""
    ask_many(many)
    ask_course(tuple(range(many)), course)
    ask_looks(looks)
    return looks_told(many, course, looks)


def weaving_for(many, course, looks):
    """The weaving by which the hands have just the looks of looks_in."""
    ask_many(many)
    ask_course(tuple(range(many)), course)
    ask_looks(looks)
    told = looks_told(many, course, looks)
    shown = [0 for _ in range(many)]
    weaving = []
    for number in range(1, len(course) + 1):
        looking = [hand for hand in range(many) if number in [pair[0] for pair in told[hand]]]
        for look in [pair[1] for hand in looking for pair in told[hand] if pair[0] == number]:
            # Looks of one round are the same, so that all but the first one show nothing new.
            for hand in range(many):
                weaving.extend([hand] * (look[hand] - shown[hand]))
                shown[hand] = look[hand]
        weaving.extend(looking)
    return tuple(weaving)


def turned(many, hand, rounds, view, looks):
    """The list of what hand knows behind each of its looks, as its view tells."""
    ask_many(many)
    ask_hand(hand)
    if hand >= many:
        raise BadHand("the hand is none of the hands")
    ask_rounds(rounds)
    ask_view(hand, rounds, view)
    if hands_in(row_seen(rounds, ((hand, view),)))[-1] >= many:
        raise BadView("a hand was seen that is none of the hands")
    ask_looks(looks)
    return known_behind_looks(many, hand, rounds, view, looks)


def ask_looks(looks):
    """BadLooks unless looks is a number of looks."""
    if not is_from(looks, 1, LOOKS_MOST):
        raise BadLooks("looks are a number from 1 to 20")


def looks_told(many, course, looks):
    """What looks_in tells."""
    standings = {hand: first_standing(hand, 0) for hand in range(many)}
    told = {hand: [] for hand in range(many)}
    for at in range(len(course)):
        standings = standings_after(many, standings, seen_by(course[at]), at + 1, looks)
        for hand in range(many):
            had = standings[hand][hand][2]
            if len(had) > len(told[hand]):
                told[hand].append((at + 1, had[-1]))
    return told


def known_behind_looks(many, hand, rounds, view, looks):
    """What turned tells."""
    told = views_by_round(hand, rounds, view)
    standings = {other: first_standing(other, told[0][other]) for other in told[0]}
    known = []
    for number in range(1, rounds + 1):
        sees = {other: hands_in(told[number][other]) for other in told[number]}
        standings = standings_after(many, standings, sees, number, looks)
        # Of the hand itself each round is told.
        if len(standings[hand][hand][2]) > len(known):
            known.append(known_at_look(hand, standings[hand]))
    return known


def first_standing(hand, value):
    """The standing of a hand ahead of the first round."""
    return {hand: (1, value, ())}


def standings_after(many, standings, sees, number, looks):
    """The dict from the hands to their standings behind a round in which they see the hands told."""
    found = {}
    for hand in sees:
        held = merged([standings[other] for other in sees[hand]])
        numbers = tuple([held.get(other, (0,))[0] for other in range(many)])
        own = held[hand]
        if sum(numbers) == number and len(own[2]) < looks:
            # Behind its last look a hand has no further put.
            puts = min(own[0] + 1, looks)
            held[hand] = (puts, own[1], own[2] + (numbers,))
        found[hand] = held
    return found


def merged(standings):
    """The standing that tells of each hand the most that any of these tells."""
    held = {}
    for standing in standings:
        for hand, told in standing.items():
            held[hand] = max(held.get(hand, told), told)
    return held


def known_at_look(hand, standing):
    """What hand knows by its last look, the last one in its standing."""
    look = standing[hand][2][-1]
    known = []
    for other in sorted(standing):
        looks = standing[other][2]
        if other != hand:
            looks = looks[:look[other] - 1]
        known.append((other, standing[other][1], looks))
    return tuple(known)
