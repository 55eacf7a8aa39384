"""Counting: how many walks and how many tables there are."""

from waitless.asking import ask_rounds
from waitless.choosing import answers_alone, ask_few_spots, ties_let, with_chosen
from waitless.errors import BadCount
from waitless.judging import is_from
from waitless.pairs import ask_pair_input, ask_places, ask_slim, pair_inputs, web_of

TIES_MOST = 729


def walks_many(task, row, one, other, ties):
    """How many walks of just so many ties lead from one place of the web of row to the other."""
    ask_slim(task)
    ask_pair_input(task, row)
    ask_places(task, row, one, other)
    if not is_from(ties, 0, TIES_MOST):
        raise BadCount("a number of ties from 0 to 729 is counted")
    return walks_from(web_of(task, row), one, ties).get(other, 0)


def lines_many(task, rounds):
    """How many tables for so many rounds task has."""
    ask_slim(task)
    ask_rounds(rounds)
    ask_few_spots(task)
    counts = {row: walks_between(task, row, ties_let(rounds)) for row in pair_inputs(task)}
    alone = answers_alone(task)
    # Who has but one answer comes first, so that what it stands for is counted once.
    order = sorted(alone, key=lambda spot: (len(alone[spot]), spot))
    behind = {spot: [] for spot in order}
    for row in counts:
        behind[max(row, key=lambda spot: (len(alone[spot]), spot))].append(row)
    return ways_on(alone, counts, behind, order, {})


def walks_from(web, place, ties):
    """The dict from the places where walks of just so many ties from place end to how many there are."""
    counts = {place: 1}
    for _ in range(ties):
        following = {}
        for one in counts:
            for other in web[one]:
                following[other] = following.get(other, 0) + counts[one]
        counts = following
    return counts


def walks_between(task, row, ties):
    """The dict from the pairs of answers of the two spots of row to how many walks of so many ties lead there."""
    web = web_of(task, row)
    one, other = row
    found = {}
    for value in answers_alone(task)[one]:
        if (one[0], value) in web:
            counts = walks_from(web, (one[0], value), ties)
            for last in answers_alone(task)[other]:
                found[(value, last)] = counts.get((other[0], last), 0)
    return found


def ways_on(alone, counts, behind, order, chosen):
    """The sum over all ways to go on with what is chosen of the products of the counts of the inputs ended so."""
    if len(chosen) == len(order):
        return 1
    spot = order[len(chosen)]
    total = 0
    for value in alone[spot]:
        further = with_chosen(chosen, spot, value)
        ways = 1
        for row in behind[spot]:
            ways = ways * counts[row].get((further[row[0]], further[row[1]]), 0)
        if ways > 0:
            total += ways * ways_on(alone, counts, behind, order, further)
    return total
