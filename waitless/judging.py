"""What values are: each function here judges any value and never raises."""

GREATEST = 999999999
HANDS_MOST = 4


def is_number(thing):
    """Whether thing is an int that is not a bool."""
    return isinstance(thing, int) and not isinstance(thing, bool)


def is_from(thing, low, high):
    """Whether thing is a number from low to high."""
    return is_number(thing) and low <= thing <= high


def is_value(thing):
    """Whether thing is a number that may stand in a row."""
    return is_from(thing, 0, GREATEST)


def is_hand(thing):
    """Whether thing is a hand."""
    return is_from(thing, 0, HANDS_MOST - 1)


def is_one_of(thing, numbers):
    """Whether thing is one of these numbers."""
    return is_number(thing) and thing in numbers


def is_rising(numbers):
    """Whether each of these numbers is above the one ahead of it."""
    return all([numbers[at] < numbers[at + 1] for at in range(len(numbers) - 1)])


def are_hands(thing):
    """Whether thing is an ascending tuple of one or more unlike hands."""
    # The length comes first, so that a long tuple is not walked through for nothing.
    if not isinstance(thing, tuple) or not 1 <= len(thing) <= HANDS_MOST:
        return False
    return all([is_hand(hand) for hand in thing]) and is_rising(thing)


def are_hands_of(hands, thing):
    """Whether thing is an ascending tuple of one or more unlike ones of hands."""
    return are_hands(thing) and all([hand in hands for hand in thing])


def is_pair(thing):
    """Whether thing is a tuple of two items."""
    return isinstance(thing, tuple) and len(thing) == 2


def are_pairs(thing):
    """Whether thing is a tuple of one or more pairs that begin with hands, ascending, none twice."""
    if not isinstance(thing, tuple) or not 1 <= len(thing) <= HANDS_MOST:
        return False
    if not all([is_pair(pair) for pair in thing]):
        return False
    return are_hands(tuple([pair[0] for pair in thing]))


def is_rowlike(thing):
    """Whether thing is a row."""
    return are_pairs(thing) and all([is_value(pair[1]) for pair in thing])


def are_steps_of(hands, thing):
    """Whether thing is a tuple of hands, each one of hands, perhaps ()."""
    return isinstance(thing, tuple) and all([is_one_of(hand, hands) for hand in thing])


def is_dict_from(hands, thing):
    """Whether thing is a dict whose keys are just the hands of an ascending tuple."""
    if not isinstance(thing, dict) or not all([is_number(key) for key in thing]):
        return False
    return sorted(thing) == list(hands)


def is_list(thing):
    """Whether thing can be taken for a list."""
    return isinstance(thing, (list, tuple))
