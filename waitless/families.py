"""Families: which sets of hands may be those that go on for ever."""

from waitless.errors import BadFamily, BadHands, BadMany, BadMost, BadPair, BadSets
from waitless.judging import is_from, is_list, is_rising

MANY_MOST = 6


class Family:
    """Sets of so many hands: just those of one of them go on for ever."""

    def __init__(self, many, sets):
        ask_family_many(many)
        if not are_sets(many, sets):
            raise BadSets("sets are a list of one or more unlike groups of hands, none of them ()")
        self.many = many
        self.sets = tuple(sorted(sets))

    def __eq__(self, other):
        return isinstance(other, Family) and self.many == other.many and self.sets == other.sets

    def holds(self, hands):
        """Whether hands is one of the sets."""
        ask_group(self, hands)
        return hands in self.sets


def within(family, hands):
    """The ascending list of the sets of family all of whose hands are in hands."""
    ask_family(family)
    ask_group(family, hands)
    return sets_within(family, hands)


def least_sets(family):
    """The ascending list of the sets of family that have no other one within them."""
    ask_family(family)
    return [group for group in family.sets if sets_within(family, group) == [group]]


def closed(family):
    """The Family of all groups that have one of the sets of family within them."""
    ask_family(family)
    return Family(family.many, [group for group in all_groups(family.many) if len(sets_within(family, group)) > 0])


def is_closed(family):
    """Whether family has all groups that have one of its sets within them."""
    ask_family(family)
    return family == closed(family)


def stops(many, most):
    """The Family of all groups of hands that lack at most so many."""
    ask_family_many(many)
    if not is_from(most, 0, many - 1):
        raise BadMost("most is a number from 0 on, below many")
    return Family(many, [group for group in all_groups(many) if len(group) >= many - most])


def either(one, other):
    """The Family of the sets of both."""
    ask_family(one)
    ask_family(other)
    if one.many != other.many:
        raise BadPair("both families have the same many")
    return Family(one.many, sorted(set(one.sets + other.sets)))


def meets(family, hands):
    """Whether each set of family has a hand of hands."""
    ask_family(family)
    ask_group(family, hands)
    return meets_all(family, hands)


def dual(family):
    """The Family of all groups that meet family."""
    ask_family(family)
    return Family(family.many, meeting_groups(family))


def meeting(family):
    """The ascending list of the groups that meet family and have as few hands as can be."""
    ask_family(family)
    found = meeting_groups(family)
    fewest = min([len(group) for group in found])
    return [group for group in found if len(group) == fewest]


def ask_family_many(many):
    """BadMany unless so many hands can be in a family."""
    if not is_from(many, 1, MANY_MOST):
        raise BadMany("there are from 1 to 6 hands")


def ask_family(family):
    """BadFamily unless family is a Family."""
    if not isinstance(family, Family):
        raise BadFamily("this is no Family")


def ask_group(family, hands):
    """BadHands unless hands is a group of hands of family."""
    if not is_group(family.many, hands):
        raise BadHands("hands are an ascending tuple of unlike hands, perhaps ()")


def is_group(many, thing):
    """Whether thing is an ascending tuple of unlike ones of so many hands, perhaps ()."""
    if not isinstance(thing, tuple) or len(thing) > many:
        return False
    return all([is_from(hand, 0, many - 1) for hand in thing]) and is_rising(thing)


def are_sets(many, thing):
    """Whether thing is a list of one or more unlike groups, none of them ()."""
    if not is_list(thing) or len(thing) == 0:
        return False
    if not all([is_group(many, group) and len(group) > 0 for group in thing]):
        return False
    return len(set(thing)) == len(thing)


def all_groups(many):
    """The ascending list of all groups of one or more of so many hands."""
    found = [()]
    for hand in range(many):
        found = found + [group + (hand,) for group in found]
    return sorted(found[1:])


def sets_within(family, hands):
    """The ascending list of the sets of family all of whose hands are in hands."""
    return [group for group in family.sets if all([hand in hands for hand in group])]


def meets_all(family, hands):
    """Whether each set of family has a hand of hands."""
    return all([any([hand in hands for hand in group]) for group in family.sets])


def meeting_groups(family):
    """The ascending list of all groups that meet family."""
    return [group for group in all_groups(family.many) if meets_all(family, group)]
