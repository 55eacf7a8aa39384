"""Powers: how many unlike answers can be had against a family of sets, with what shows it."""

from waitless.errors import BadCount, BadPicks
from waitless.families import ask_family, is_group, sets_within
from waitless.judging import is_from, is_one_of

COUNT_MOST = 6


def chain(family, choice):
    """A chain of the picks choice with as many sets as can be."""
    ask_family(family)
    if not are_picks(family, choice):
        raise BadPicks("picks are a dict from just the sets of the family to a hand of each")
    found = []
    for sets in chains_from(family, choice).values():
        if len(sets) > len(found):
            found = sets
    return list(found)


def is_picks(family, number, thing):
    """Whether thing, of any value, is picks without a chain of more than number sets."""
    ask_family(family)
    ask_count(number)
    if not are_picks(family, thing):
        return False
    return max([len(sets) for sets in chains_from(family, thing).values()]) <= number


def is_lead(family, number, thing):
    """Whether thing, of any value, is a lead that leads for number from the group of all hands."""
    ask_family(family)
    ask_count(number)
    if not isinstance(thing, dict) or not all([is_group(family.many, group) for group in thing]):
        return False
    if not all([is_set_within(family, thing[group], group) for group in thing]):
        return False
    return leads(thing, tuple(range(family.many)), number)


def power(family):
    """The least number for which there are picks."""
    ask_family(family)
    return numbers_of(family)[tuple(range(family.many))][0]


def picks(family):
    """Picks without a chain of more sets than the power of family."""
    ask_family(family)
    numbers = numbers_of(family)
    return {some: best_pick(numbers, some) for some in family.sets}


def lead(family):
    """A lead that leads for the power of family from the group of all hands."""
    ask_family(family)
    numbers = numbers_of(family)
    return {group: numbers[group][1] for group in sorted(numbers) if numbers[group][1] is not None}


def ask_count(number):
    """BadCount unless number is one that sets of a chain can be counted by."""
    if not is_from(number, 0, COUNT_MOST):
        raise BadCount("a number from 0 to 6 is asked for")


def are_picks(family, thing):
    """Whether thing is a dict from just the sets of family to a hand of each."""
    # Keys must be groups before any is looked up: True would be found in the place of 1.
    if not isinstance(thing, dict) or not all([is_group(family.many, key) for key in thing]):
        return False
    return sorted(thing) == list(family.sets) and all([is_one_of(thing[some], some) for some in thing])


def is_set_within(family, thing, group):
    """Whether thing is a set of family all of whose hands are in group."""
    return is_group(family.many, thing) and thing in sets_within(family, group)


def without(group, hand):
    """Group without this hand."""
    return tuple([other for other in group if other != hand])


def chains_from(family, choice):
    """The dict from the sets of family to a longest chain of the picks choice that begins with each."""
    chains = {}
    # What may stand behind a set is shorter than it.
    for some in sorted(family.sets, key=len):
        longest = []
        for following in sets_within(family, without(some, choice[some])):
            if len(chains[following]) > len(longest):
                longest = chains[following]
        chains[some] = [some] + longest
    return chains


def leads(sets, group, number):
    """Whether the lead sets leads for number from group."""
    if number == 0:
        return True
    if group not in sets:
        return False
    return all([leads(sets, without(sets[group], hand), number - 1) for hand in sets[group]])


def numbers_of(family):
    """The dict from all groups, () too, to pairs: for how much a lead leads from there, and the set to lead by.

    For a set it is one more than for what is left of it if that hand goes which leaves least.
    """
    numbers = {}
    groups = [()]
    for hand in range(family.many):
        groups = groups + [group + (hand,) for group in groups]
    for group in sorted(groups, key=len):
        best = (0, None)
        for some in sets_within(family, group):
            number = 1 + numbers[without(some, best_pick(numbers, some))][0]
            if number > best[0]:
                best = (number, some)
        numbers[group] = best
    return numbers


def best_pick(numbers, some):
    """The hand of a set without which the least is left."""
    return min(some, key=lambda hand: numbers[without(some, hand)][0])
