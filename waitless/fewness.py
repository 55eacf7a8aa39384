"""Fewness: few unlike answers out of some values."""

from waitless.asking import ask_many
from waitless.errors import BadMost, BadValues
from waitless.judging import HANDS_MOST, is_from
from waitless.making import VALUES_MOST


def few_rounds(many, values, most):
    """0 if at most so many unlike values can be answered out of so many, None otherwise."""
    ask_few(many, values, most)
    return rounds_of_few(many, values, most)


def few_paper(many, values, most):
    """An odd paper that no number of rounds is enough, None if few can be done."""
    ask_few(many, values, most)
    if rounds_of_few(many, values, most) == 0:
        return None
    hands = tuple(range(most + 1))
    # All numbers would only be got by more unlike answers than are let.
    return (tuple([(hand, hand) for hand in hands]), {(hand, value): value for hand in hands for value in hands})


def ask_few(many, values, most):
    """BadMany, BadValues, BadMost."""
    ask_many(many)
    if not is_from(values, 1, VALUES_MOST):
        raise BadValues("there are from 1 to 9 values")
    if not is_from(most, 1, HANDS_MOST):
        raise BadMost("most is a number from 1 to 4")


def rounds_of_few(many, values, most):
    """What few_rounds tells."""
    if most >= many or most >= values:
        return 0
    return None
