"""What callers must hand in: each function here raises the error of a parameter that is wrong."""

from waitless.errors import BadAnswer, BadHand, BadHands, BadMany, BadRounds, BadRow
from waitless.judging import are_hands, is_from, is_hand, is_rowlike, is_value, HANDS_MOST

ROUNDS_MOST = 6


def ask_row(row):
    """BadRow unless row is a row."""
    if not is_rowlike(row):
        raise BadRow("a row is a tuple of pairs of a hand and a value, hands ascending")


def ask_hand(hand):
    """BadHand unless hand is a hand."""
    if not is_hand(hand):
        raise BadHand("a hand is a number from 0 to 3")


def ask_hands(hands):
    """BadHands unless hands is an ascending tuple of one or more unlike hands."""
    if not are_hands(hands):
        raise BadHands("hands are an ascending tuple of one or more unlike hands")


def ask_many(many):
    """BadMany unless so many hands can be."""
    if not is_from(many, 1, HANDS_MOST):
        raise BadMany("there are from 1 to 4 hands")


def ask_rounds(rounds, most=ROUNDS_MOST):
    """BadRounds unless rounds is a number from 0 to most."""
    if not is_from(rounds, 0, most):
        raise BadRounds(f"rounds are a number from 0 to {most}")


def ask_answer(answer, corner):
    """What answer tells of corner; BadAnswer(corner) unless it is a number that may stand in a row."""
    value = answer(corner)
    if not is_value(value):
        raise BadAnswer(corner)
    return value
