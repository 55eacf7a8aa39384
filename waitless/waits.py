"""Waits: rules against a closed family, by which a few hands answer and all others wait for one of them."""

from waitless.errors import NotClosed
from waitless.families import ask_family, is_closed, meeting
from waitless.rules import known_behind, told_by


def home(family):
    """The first of the smallest groups that meet a closed family."""
    ask_closed(family)
    return meeting(family)[0]


def waiting(family):
    """The rule by which hands of home answer their own values, and all others that of one of home."""
    hands = home(family)

    def rule(hand, known):
        values, looks = told_by(known)
        if hand in hands and len(looks[hand]) > 0:
            return values[hand]
        for other in hands:
            if other != hand and other in values:
                return values[other]
        return None

    return rule


def carried(family, rule):
    """The rule by which hands of home answer as rule tells, and all others as one of home has answered."""
    hands = home(family)

    def carrying(hand, known):
        if hand in hands:
            return rule(hands.index(hand), known_of_home(hands, known))
        values, looks = told_by(known)
        for other in hands:
            if other in looks and len(looks[other]) > 0:
                # What the other one knew by its last look shows whether it has answered behind it.
                behind = known_behind(values, looks, other, len(looks[other]))
                told = rule(hands.index(other), known_of_home(hands, behind))
                if told is not None:
                    return told
        return None

    return carrying


def ask_closed(family):
    """BadFamily unless family is a Family, NotClosed unless it is closed."""
    ask_family(family)
    if not is_closed(family):
        raise NotClosed("a closed family is asked for")


def known_of_home(hands, known):
    """What is known of the hands of home alone, as the hands are that they stand for."""
    found = []
    for hand, value, looks in known:
        if hand in hands:
            found.append((hands.index(hand), value, tuple([tuple([look[one] for one in hands]) for look in looks])))
    return tuple(found)
