"""Looks: what hands see that put all they know into one memory, and look at it, by turns."""

from waitless.asking import ask_many
from waitless.errors import BadWeaving
from waitless.judging import are_steps_of


def looks_of(many, weaving):
    """The dict from the hands to the lists of the looks that they have by weaving."""
    ask_many(many)
    if not are_steps_of(tuple(range(many)), weaving):
        raise BadWeaving("a weaving is a tuple of hands")
    puts = [0 for _ in range(many)]
    looks = {hand: [] for hand in range(many)}
    for hand in weaving:
        if puts[hand] == len(looks[hand]):
            puts[hand] += 1
        else:
            looks[hand].append(tuple(puts))
    return looks


def is_whole(many, thing):
    """Whether thing, of any value, is a weaving with equally many puts and looks of each hand."""
    ask_many(many)
    return makes_whole(many, thing)


def makes_whole(many, thing):
    """Whether thing is a whole weaving of so many hands."""
    if not are_steps_of(tuple(range(many)), thing):
        return False
    steps = [thing.count(hand) for hand in range(many)]
    return min(steps) == max(steps) and steps[0] > 0 and steps[0] % 2 == 0
