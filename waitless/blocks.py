"""Blocks: who sees whom in a round."""

from waitless.asking import ask_hands
from waitless.errors import BadBlocks, BadCount, BadSights
from waitless.judging import are_hands, is_dict_from, is_from, is_number, is_rising


def blocks_of(hands):
    """The ascending list of all blocks of hands."""
    ask_hands(hands)
    return all_blocks(hands)


def is_blocks(hands, thing):
    """Whether thing, of any value, is blocks of hands."""
    ask_hands(hands)
    return makes_blocks(hands, thing)


def blocks_many(number):
    """How many blocks so many hands have."""
    if not is_from(number, 1, 20):
        raise BadCount("a number of hands from 1 to 20 is counted")
    return blocks_count(number)


def sights(hands, blocks):
    """The dict from each hand to the ascending tuple of the hands that it sees."""
    ask_hands(hands)
    ask_blocks(hands, blocks)
    return seen_by(blocks)


def blocks_from(hands, told):
    """The only blocks with the sights told, None if there are none."""
    ask_hands(hands)
    if not is_dict_from(hands, told) or not all([are_sights(hands, told[hand]) for hand in hands]):
        raise BadSights("sights are a dict from the hands to ascending tuples of some of them")
    return blocks_seeing(told)


def ask_blocks(hands, blocks):
    """BadBlocks unless blocks is blocks of hands."""
    if not makes_blocks(hands, blocks):
        raise BadBlocks("blocks are a tuple of tuples in which each hand stands just once")


def makes_blocks(hands, thing):
    """Whether thing is blocks of hands."""
    if not isinstance(thing, tuple) or not all([are_hands(block) for block in thing]):
        return False
    return sorted([hand for block in thing for hand in block]) == list(hands)


def are_sights(hands, thing):
    """Whether thing is an ascending tuple of unlike ones of hands, perhaps ()."""
    if not isinstance(thing, tuple) or not all([is_number(hand) for hand in thing]):
        return False
    return is_rising(thing) and all([hand in hands for hand in thing])


def all_blocks(hands):
    """The ascending list of all blocks of some hands, [()] of none."""
    if len(hands) == 0:
        return [()]
    found = []
    for first in groups_in(hands):
        others = tuple([hand for hand in hands if hand not in first])
        found.extend([(first,) + blocks for blocks in all_blocks(others)])
    return sorted(found)


def groups_in(hands):
    """The list of all groups of one or more of hands."""
    groups = [()]
    for hand in hands:
        groups = groups + [group + (hand,) for group in groups]
    return groups[1:]


def seen_by(blocks):
    """The dict from the hands of blocks, ascending, to the ascending tuples of those that they see."""
    found = {}
    ahead = ()
    for block in blocks:
        ahead = tuple(sorted(ahead + block))
        for hand in block:
            found[hand] = ahead
    return {hand: found[hand] for hand in sorted(found)}


def blocks_seeing(told):
    """The only blocks with the sights told, None if there are none."""
    lengths = sorted(set([len(told[hand]) for hand in told]))
    blocks = tuple([tuple([hand for hand in sorted(told) if len(told[hand]) == length]) for length in lengths])
    # Who sees more stands behind, so that no other blocks can have these sights.
    if seen_by(blocks) == told:
        return blocks
    return None


def choose(number, size):
    """In how many ways so many can be taken out of number."""
    ways = 1
    for taken in range(size):
        ways = ways * (number - taken) // (taken + 1)
    return ways


def blocks_count(number):
    """How many blocks so many hands have, 1 for no hands."""
    counts = [1]
    for total in range(1, number + 1):
        counts.append(sum([choose(total, first) * counts[total - first] for first in range(1, total + 1)]))
    return counts[number]


def facets_count(number, rounds):
    """How many courses of so many rounds so many hands have."""
    count = 1
    for _ in range(rounds):
        count = count * blocks_count(number)
    return count
