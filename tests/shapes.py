"""Surfaces that tests share, and plain reckonings on them."""

import itertools

from waitless.surfaces import Surface


def named(triangles):
    """Triangles with the numbers from 0 on in the places of whatever names they have."""
    names = sorted({place for triangle in triangles for place in triangle})
    return [tuple(sorted(names.index(place) for place in triangle)) for triangle in triangles]


TETRAHEDRON = list(itertools.combinations(range(4), 3))
OCTAHEDRON = [tuple(sorted((a, b, c))) for a in (0, 5) for b, c in ((1, 2), (2, 3), (3, 4), (1, 4))]
TORUS = [tuple(sorted((at % 7, (at + one) % 7, (at + 3) % 7))) for at in range(7) for one in (1, 2)]
PLANE = [tuple(sorted(some)) for some in ((0, 1, 4), (0, 1, 5), (0, 2, 3), (0, 2, 5), (0, 3, 4), (1, 2, 3), (1, 2, 4),
                                         (1, 3, 5), (2, 4, 5), (3, 4, 5))]


def joined(one, other):
    """Two surfaces laid together along a triangle of each, which is left out."""
    first, second = one[-1], other[0]
    beyond = 1 + max(place for triangle in one for place in triangle)
    found = list(one[:-1])
    for triangle in other[1:]:
        found.append(tuple(first[second.index(place)] if place in second else beyond + place for place in triangle))
    return named(found)


def grid(wide, high, turned=False):
    """A torus of squares in two halves, or a Klein bottle."""
    def place(at, up):
        if at == wide and turned:
            up = -up
        return (at % wide, up % high)
    found = []
    for at in range(wide):
        for up in range(high):
            low, top = place(at, up), place(at + 1, up + 1)
            found += [(low, place(at + 1, up), top), (low, place(at, up + 1), top)]
    return named(found)


TWO_HOLES = joined(TORUS, TORUS)
THREE_HOLES = joined(TWO_HOLES, TORUS)
FOUR_HOLES = joined(THREE_HOLES, TORUS)
BOTTLE = joined(PLANE, PLANE)
THREE_PLANES = joined(BOTTLE, PLANE)
GRID = grid(5, 6)
KLEIN = grid(3, 5, True)
# With the number of sides, and of holes.
KINDS = [(TETRAHEDRON, 2, 0), (OCTAHEDRON, 2, 0), (TORUS, 2, 1), (GRID, 2, 1), (TWO_HOLES, 2, 2), (THREE_HOLES, 2, 3),
         (FOUR_HOLES, 2, 4), (PLANE, 1, 1), (BOTTLE, 1, 2), (KLEIN, 1, 2), (THREE_PLANES, 1, 3),
         (joined(TORUS, PLANE), 1, 3), (joined(THREE_PLANES, PLANE), 1, 4)]
SURFACES = [(Surface(triangles), sides, holes) for triangles, sides, holes in KINDS]


def plain_ties(surface):
    return sorted({tie for triangle in surface.triangles for tie in itertools.combinations(triangle, 2)})


def near_places(surface):
    """The dict from the places to those they are tied to."""
    found = {place: [] for triangle in surface.triangles for place in triangle}
    for one, other in plain_ties(surface):
        found[one].append(other)
        found[other].append(one)
    return found


def is_spot(surface, places):
    return any(set(places) <= set(triangle) for triangle in surface.triangles)


def is_plain_way(surface, thing):
    return all(is_spot(surface, thing[at:at + 2]) for at in range(len(thing)))


def way_back(surface, way):
    """Way, led back to its first place by a shortest way."""
    near, last = near_places(surface), {way[-1]: None}
    reached = [way[-1]]
    while way[0] not in last:
        further = []
        for place in reached:
            for other in near[place]:
                if other not in last:
                    last[other] = place
                    further.append(other)
        reached = further
    back = [way[0]]
    while back[-1] != way[-1]:
        back.append(last[back[-1]])
    return tuple(way) + tuple(back[::-1][1:])


def some_way(chance, surface, steps, first=None):
    """A way taken by chance, sometimes standing still."""
    near = near_places(surface)
    way = [chance.choice(surface.places) if first is None else first]
    for _ in range(steps):
        way.append(chance.choice(near[way[-1]] + [way[-1]]))
    return tuple(way)


def some_loop(chance, surface, steps, first=None):
    return way_back(surface, some_way(chance, surface, steps, first))


def plain_pushed(surface, way, push):
    """The way behind a push, None if it can't be done."""
    if push[0] == "in":
        _, at, place = push
        if 0 <= at < len(way) - 1 and is_spot(surface, (way[at], place, way[at + 1])):
            return way[:at + 1] + (place,) + way[at + 1:]
        return None
    at = push[1]
    if 0 < at < len(way) - 1 and is_spot(surface, way[at - 1:at + 2]):
        return way[:at] + way[at + 1:]
    return None


def all_pushes(surface, way):
    """All pushes that can be done to way."""
    for at in range(len(way)):
        for push in [("out", at)] + [("in", at, place) for place in surface.places]:
            if plain_pushed(surface, way, push) is not None:
                yield push


def some_drawn_loop(chance, surface, pushes):
    """A loop that can be drawn together: pushes by chance make it out of a place."""
    place = chance.choice(surface.places)
    way = (place, place)
    near = near_places(surface)
    for _ in range(pushes):
        at = chance.randrange(len(way) - 1)
        push = ("in", at, chance.choice(near[way[at]] + [way[at]]))
        if chance.random() < 0.2 and len(way) > 2:
            push = ("out", chance.randrange(1, len(way) - 1))
        way = plain_pushed(surface, way, push) or way
    return way


def around_place(surface, place):
    """The loop around a place."""
    rim = [tuple(one for one in triangle if one != place) for triangle in surface.triangles if place in triangle]
    around, last = [rim[0][0]], rim[0]
    while len(around) == 1 or around[-1] != around[0]:
        around.append(last[0] if last[1] == around[-1] else last[1])
        last = [tie for tie in rim if around[-1] in tie and tie != last][0]
    return tuple(around)


def plain_side_count(surface):
    """1 if going round over ties turns some triangle, 2 otherwise."""
    turns = {surface.triangles[0]: surface.triangles[0]}
    waiting = [surface.triangles[0]]
    while waiting:
        one = waiting.pop()
        a, b, c = turns[one]
        steps = {(a, b), (b, c), (c, a)}
        for other in surface.triangles:
            if len(set(one) & set(other)) == 2:
                for turned in (other, (other[0], other[2], other[1])):
                    x, y, z = turned
                    if not steps & {(x, y), (y, z), (z, x)}:
                        if other not in turns:
                            turns[other] = turned
                            waiting.append(other)
                        elif turns[other] != turned:
                            return 1
    return 2
