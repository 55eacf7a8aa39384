"""Pairs: tasks whose inputs have one or two hands, and the webs of those of two."""

from waitless.errors import BadInput, BadPlace, NotSlim
from waitless.judging import is_number, is_pair
from waitless.tasks import ask_task


def spots(task):
    """The ascending list of the spots: the pairs (hand, value) that are inputs by themselves."""
    ask_slim(task)
    return all_spots(task)


def walk(task, row, one, other):
    """A walk of as few ties as can be from one place of the web of row to the other, None if there is none."""
    ask_slim(task)
    ask_pair_input(task, row)
    ask_places(task, row, one, other)
    return shortest_walk(web_of(task, row), one, other)


def far(task, row, one, other):
    """How many ties a shortest walk from one place to the other has, None if there is none."""
    ask_slim(task)
    ask_pair_input(task, row)
    ask_places(task, row, one, other)
    return ties_away(web_of(task, row), one).get(other)


def ask_slim(task):
    """BadTask unless task is a Task, NotSlim unless each input has one or two hands."""
    ask_task(task)
    # The inputs are sorted by length.
    if len(task.inputs()[-1]) > 2:
        raise NotSlim("each input of a slim task has one or two hands")


def ask_pair_input(task, row):
    """BadInput unless row is an input of two hands."""
    if not task.has(row) or len(row) != 2:
        raise BadInput("an input of two hands is asked for")


def ask_places(task, row, one, other):
    """BadPlace unless one and other are places of the web of row."""
    web = web_of(task, row)
    for place in (one, other):
        if not is_spotlike(place) or place not in web:
            raise BadPlace("a place is a pair (hand, value) that stands in answers to the row")


def is_spotlike(thing):
    """Whether thing is a pair of two numbers, so that it may be looked up."""
    return is_pair(thing) and is_number(thing[0]) and is_number(thing[1])


def all_spots(task):
    """The ascending list of the spots."""
    return sorted([row[0] for row in task.inputs() if len(row) == 1])


def pair_inputs(task):
    """The list of the inputs of two hands, in the sequence of inputs()."""
    return [row for row in task.inputs() if len(row) == 2]


def web_of(task, row):
    """The dict from the places of the web of row, ascending, to the lists of the places at other ends of ties."""
    found = {}
    for one, other in task.answers(row):
        found.setdefault(one, []).append(other)
        found.setdefault(other, []).append(one)
    return {place: found[place] for place in sorted(found)}


def ties_away(web, place):
    """The dict from all places that walks from place come to, to how many ties shortest ones have."""
    away = {place: 0}
    reached = [place]
    while len(reached) > 0:
        following = []
        for one in reached:
            for other in web.get(one, []):
                if other not in away:
                    away[other] = away[one] + 1
                    following.append(other)
        reached = following
    return away


def shortest_walk(web, one, other):
    """A walk of as few ties as can be, None if there is none."""
    away = ties_away(web, other)
    if one not in away:
        return None
    places = [one]
    while away[places[-1]] > 0:
        last = places[-1]
        places.append([place for place in web[last] if away[place] < away[last]][0])
    return tuple(places)
