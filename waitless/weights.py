"""Weights: what shows of a choice of three hands' answers whether the ways between them can be filled."""

from waitless.errors import BadChoice, BadHands
from waitless.judging import is_from, is_number, is_rowlike
from waitless.odd import places_of
from waitless.pairs import is_spotlike, web_of
from waitless.rows import hands_in, part_with
from waitless.tasks import ask_input, ask_task


def lone_choices(task, row):
    """The ascending list of all choices: answers of the three hands of row alone."""
    ask_three(task, row)
    return all_lone_choices(task, row)


def is_choice_paper(task, row, choice, thing):
    """Whether thing, of any value, is a paper of choice."""
    ask_three(task, row)
    ask_lone_choice(task, row, choice)
    return makes_choice_paper(task, row, choice, thing)


def ask_three(task, row):
    """BadTask unless task is a Task, BadInput unless row is an input, BadHands unless it has three hands."""
    ask_task(task)
    ask_input(task, row)
    if len(row) != 3:
        raise BadHands("an input of three hands is asked for")


def ask_lone_choice(task, row, choice):
    """BadChoice unless choice is one of row."""
    if not is_triple(choice) or not all([value in told for value, told in zip(choice, answers_alone(task, row))]):
        raise BadChoice("a choice is a triple of what the three hands answer alone")


def is_triple(thing):
    """Whether thing is a tuple of three numbers."""
    return isinstance(thing, tuple) and len(thing) == 3 and all([is_number(item) for item in thing])


def answers_alone(task, row):
    """The list of the lists of what the hands of row answer alone."""
    return [[answer[0][1] for answer in task.answers((pair,))] for pair in row]


def lone_choices_many(task, row):
    """How many choices there are."""
    many = 1
    for told in answers_alone(task, row):
        many = many * len(told)
    return many


def all_lone_choices(task, row):
    """The ascending list of all choices."""
    found = [()]
    for told in answers_alone(task, row):
        found = [some + (value,) for some in found for value in told]
    return found


def sides_of(row):
    """The three sides of row, in sequence."""
    low, middle, high = hands_in(row)
    return ((low, middle), (middle, high), (low, high))


def side_ends(row, choice, side):
    """The pair of the first and the last place of the ways of side."""
    alone = {pair[0]: value for pair, value in zip(row, choice)}
    return ((side[0], alone[side[0]]), (side[1], alone[side[1]]))


def side_web(task, row, side):
    """The web of the answers to the part of side."""
    return web_of(task, part_with(row, side))


def ties_of(task, row):
    """The ascending list of the ties of row."""
    found = {}
    for side in sides_of(row):
        for answer in task.answers(part_with(row, side)):
            found[answer] = True
        for answer in task.answers(row):
            found[part_with(answer, side)] = True
    return sorted(found)


def makes_choice_paper(task, row, choice, thing):
    """Whether thing is a paper of choice."""
    if not isinstance(thing, tuple) or len(thing) != 3 or not isinstance(thing[0], str):
        return False
    if thing[0] == "apart":
        return is_apart(task, row, choice, thing)
    if thing[0] == "weights":
        return is_weighed(task, row, choice, thing)
    return thing[0] == "filled" and is_filled(task, row, choice, thing)


def is_apart(task, row, choice, paper):
    """Whether a triple shows that a side has no way."""
    side, reach = paper[1:]
    if not is_spotlike(side) or side not in sides_of(row) or not isinstance(reach, tuple):
        return False
    if not all([is_spotlike(place) for place in reach]):
        return False
    let = {place: True for place in places_of(task, row) if place[0] in side}
    reached = {place: True for place in reach}
    if list(reach) != sorted(reached) or not all([place in let for place in reach]):
        return False
    one, other = side_ends(row, choice, side)
    if one not in reached or other in reached:
        return False
    answers = task.answers(part_with(row, side))
    return all([(answer[0] in reached) == (answer[1] in reached) for answer in answers])


def is_weighed(task, row, choice, paper):
    """Whether a triple shows by weights that the ways can't be filled."""
    modulus, weights = paper[1:]
    if not is_number(modulus) or modulus < 2 or not isinstance(weights, dict):
        return False
    if not all([is_rowlike(key) for key in weights]) or sorted(weights) != ties_of(task, row):
        return False
    if not all([is_from(weight, 0, modulus - 1) for weight in weights.values()]):
        return False
    if not all([rim_weight(weights, answer) % modulus == 0 for answer in task.answers(row)]):
        return False
    total = 0
    for at, side in enumerate(sides_of(row)):
        found = way_sum(side_web(task, row, side), weights, modulus, side_ends(row, choice, side))
        if found is None:
            return False
        total += found if at < 2 else -found
    return total % modulus != 0


def rim_weight(weights, answer):
    """The weights of the ties of a row of three hands, that of the first and the last hand taken off."""
    return weights[answer[:2]] + weights[answer[1:]] - weights[(answer[0], answer[2])]


def step_weight(weights, one, other):
    """The weight of the tie of two places, taken off if the other one's hand is below."""
    if one < other:
        return weights[(one, other)]
    return -weights[(other, one)]


def way_sum(web, weights, modulus, ends):
    """The sum modulo modulus that all ways have from end to end; None if there is no way, or they differ."""
    sums = {ends[0]: 0}
    reached = [ends[0]]
    while len(reached) > 0:
        one = reached.pop()
        for other in web.get(one, []):
            total = (sums[one] + step_weight(weights, one, other)) % modulus
            if other not in sums:
                sums[other] = total
                reached.append(other)
            elif sums[other] != total:
                return None
    return sums.get(ends[1])


def is_filled(task, row, choice, paper):
    """Whether a triple tells ways of all sides, and counts of answers that fill them."""
    ways, counts = paper[1:]
    if not isinstance(ways, tuple) or len(ways) != 3 or not isinstance(counts, dict):
        return False
    if not all([is_way(task, row, choice, side, way) for side, way in zip(sides_of(row), ways)]):
        return False
    if not all([is_rowlike(key) for key in counts]):
        return False
    let = {answer: True for answer in task.answers(row)}
    if not all([key in let and is_number(count) and count != 0 for key, count in counts.items()]):
        return False
    steps = steps_along(ways)
    sums = counts_along(row, counts)
    return all([steps.get(tie, 0) == sums.get(tie, 0) for tie in ties_of(task, row)])


def is_way(task, row, choice, side, thing):
    """Whether thing is a way of side."""
    if not isinstance(thing, tuple) or len(thing) < 2 or not all([is_spotlike(place) for place in thing]):
        return False
    if (thing[0], thing[-1]) != side_ends(row, choice, side):
        return False
    let = {answer: True for answer in task.answers(part_with(row, side))}
    return all([tuple(sorted(thing[at:at + 2])) in let for at in range(len(thing) - 1)])


def steps_along(ways):
    """The dict from ties to the steps along them in ways, those to the hand that is below counted as -1."""
    found = {}
    for way in ways:
        for at in range(len(way) - 1):
            one, other = way[at:at + 2]
            tie = tuple(sorted((one, other)))
            found[tie] = found.get(tie, 0) + (1 if one < other else -1)
    return found


def counts_along(row, counts):
    """The dict from ties to the sums of the counts of the answers that they are a part of."""
    found = {}
    for answer in counts:
        for side in sides_of(row):
            tie = part_with(answer, side)
            found[tie] = found.get(tie, 0) + counts[answer]
    return found
