"""Rows: what the hands of some group have, a value each."""

from waitless.asking import ask_row
from waitless.errors import BadHand, BadHands
from waitless.judging import are_hands_of, is_number, is_rowlike


def is_row(thing):
    """Whether thing is a row, of any value."""
    return is_rowlike(thing)


def hands_of(row):
    """The tuple of the hands of row."""
    ask_row(row)
    return hands_in(row)


def value_of(row, hand):
    """The value that hand has in row."""
    ask_row(row)
    if not is_number(hand) or hand not in hands_in(row):
        raise BadHand("the hand is none of the row's")
    return told_of(row, hand)


def part(row, hands):
    """The part of row that has just these hands."""
    ask_row(row)
    if not are_hands_of(hands_in(row), hands):
        raise BadHands("the hands are not an ascending tuple of hands of the row")
    return part_with(row, hands)


def parts(row):
    """The list of all parts of row, ascending by length, then as tuples."""
    ask_row(row)
    found = [()]
    for pair in row:
        found = found + [pairs + (pair,) for pairs in found]
    return sorted(found[1:], key=by_length)


def is_part(one, other):
    """Whether the row one is a part of the row other."""
    ask_row(one)
    ask_row(other)
    return is_within(one, other)


def hands_in(pairs):
    """The tuple of the hands that stand in pairs of a hand and anything."""
    return tuple([pair[0] for pair in pairs])


def told_of(pairs, hand):
    """What stands beside hand in pairs."""
    return [pair[1] for pair in pairs if pair[0] == hand][0]


def part_with(pairs, hands):
    """The pairs that have one of these hands."""
    return tuple([pair for pair in pairs if pair[0] in hands])


def is_within(one, other):
    """Whether all pairs of one stand in other."""
    return all([pair in other for pair in one])


def one_less(row):
    """The list of the parts of row that lack just one of its pairs."""
    if len(row) == 1:
        return []
    return [row[:at] + row[at + 1:] for at in range(len(row))]


def by_length(row):
    """What rows are sorted by: their length, then themselves."""
    return (len(row), row)
