"""Drawing: ways on surfaces, and pushes that draw them over triangles."""

from waitless.errors import BadLoop, BadPush, BadWay
from waitless.judging import is_from, is_list, is_number, is_one_of
from waitless.surfaces import ask_surface


def pushed(surface, way, push):
    """The way behind a push."""
    ask_surface(surface)
    ask_way(surface, way)
    places = list(way)
    if not can_push(surface, places, push):
        raise BadPush(0)
    do_push(places, push)
    return tuple(places)


def led(surface, way, pushes):
    """The way behind all of pushes, one after another."""
    ask_surface(surface)
    ask_way(surface, way)
    if not is_list(pushes):
        raise BadPush(None)
    places = list(way)
    count = pushes_done(surface, places, pushes)
    if count < len(pushes):
        raise BadPush(count)
    return tuple(places)


def ask_way(surface, way):
    """BadWay unless way is one on surface."""
    if not is_way(surface, way):
        raise BadWay("a way is a tuple of places, each two neighbours equal or a tie")


def ask_loop(surface, loop):
    """BadLoop unless loop is a way on surface that ends where it begins."""
    if not is_way(surface, loop) or loop[0] != loop[-1]:
        raise BadLoop("a loop is a way that ends where it begins")


def is_way(surface, thing):
    """Whether thing is a way on surface."""
    if not isinstance(thing, tuple) or len(thing) == 0:
        return False
    let = {place: True for place in surface.places}
    if not all([is_one_of(place, let) for place in thing]):
        return False
    return all([surface.are_spot(thing[at:at + 2]) for at in range(len(thing) - 1)])


def can_push(surface, places, push):
    """Whether push, of any value, can be done to the way of these places."""
    if not isinstance(push, tuple) or not 2 <= len(push) <= 3 or not isinstance(push[0], str):
        return False
    if not all([is_number(number) for number in push[1:]]):
        return False
    last = len(places) - 1
    if push[0] == "in" and len(push) == 3:
        at, place = push[1:]
        return is_from(at, 0, last - 1) and place in surface.places and surface.are_spot([place] + places[at:at + 2])
    if push[0] == "out" and len(push) == 2:
        at = push[1]
        return is_from(at, 1, last - 1) and surface.are_spot(places[at - 1:at + 2])
    return False


def do_push(places, push):
    """A push that can be done is done to the list of places."""
    if push[0] == "in":
        places.insert(push[1] + 1, push[2])
    else:
        places.pop(push[1])


def pushes_done(surface, places, pushes):
    """How many of pushes can be done to the list of places, one after another; they are done."""
    count = 0
    for push in pushes:
        if not can_push(surface, places, push):
            return count
        do_push(places, push)
        count += 1
    return count


def are_all_one(places):
    """Whether all of places are equal."""
    return all([place == places[0] for place in places])
