"""Surfaces: closed surfaces laid together from triangles."""

from waitless.errors import BadSurface, TooMany
from waitless.judging import is_from, is_list, is_rising

PLACE_GREATEST = 99
TRIANGLES_MOST = 60
DOUBLED_PLACE_GREATEST = 49
DOUBLED_TRIANGLES_MOST = 30


class Surface:
    """A closed surface of triangles, each tie being one of two of them."""

    def __init__(self, triangles):
        if not are_closed(triangles):
            raise BadSurface("a surface is a list of triangles that are laid together into a closed one")
        self.triangles = tuple(sorted(triangles))
        self.places = tuple(sorted(set([place for triangle in self.triangles for place in triangle])))
        self.ties = tuple(sorted(set([tie for triangle in self.triangles for tie in ties_of(triangle)])))
        self._beside = beside_ties(self.triangles)
        self._has = {triangle: True for triangle in self.triangles}

    def __eq__(self, other):
        return isinstance(other, Surface) and self.triangles == other.triangles

    def pair_beside(self, tie):
        """The list of the two indexes of the triangles with this tie."""
        return list(self._beside[tie])

    def other_beside(self, tie, index):
        """The index of the triangle with this tie that isn't the one of index."""
        first, second = self._beside[tie]
        return first + second - index

    def are_spot(self, places):
        """Whether places of the surface are all of one triangle."""
        unlike = tuple(sorted(set(places)))
        if len(unlike) < 3:
            return len(unlike) == 1 or unlike in self._beside
        return unlike in self._has


def turning(surface):
    """The tuple of the triangles, turned such that each tie is gone in both directions; None if they can't be."""
    ask_surface(surface)
    turns = turns_of(surface)
    if turns is None:
        return None
    return tuple([turned_by(triangle, turns[at]) for at, triangle in enumerate(surface.triangles)])


def kind(surface):
    """The pair of the number of sides and that of holes."""
    ask_surface(surface)
    return kind_of(surface)


def doubled(surface):
    """The surface of two sides that lies over one of one side, two places over each place."""
    ask_surface(surface)
    ask_small(surface)
    if turns_of(surface) is not None:
        raise BadSurface("a surface with one side is asked for")
    return double_of(surface)


def ask_surface(surface):
    """BadSurface unless surface is a Surface."""
    if not isinstance(surface, Surface):
        raise BadSurface("this is no Surface")


def ask_small(surface):
    """TooMany(None) if what lies over surface would have too many triangles, or too great places."""
    if surface.places[-1] > DOUBLED_PLACE_GREATEST or len(surface.triangles) > DOUBLED_TRIANGLES_MOST:
        raise TooMany(None)


def is_triangle(thing):
    """Whether thing is an ascending tuple of three unlike places."""
    if not isinstance(thing, tuple) or len(thing) != 3:
        return False
    return all([is_from(place, 0, PLACE_GREATEST) for place in thing]) and is_rising(thing)


def ties_of(triangle):
    """The three ties of a triangle, the last one being that gone back by when it is gone round."""
    low, middle, high = triangle
    return ((low, middle), (middle, high), (low, high))


def beside_ties(triangles):
    """The dict from the ties to the lists of the indexes of their triangles."""
    beside = {}
    for at, triangle in enumerate(triangles):
        for tie in ties_of(triangle):
            beside.setdefault(tie, []).append(at)
    return beside


def are_closed(triangles):
    """Whether triangles is a list of triangles that make a closed surface, of any value."""
    if not is_list(triangles) or not 1 <= len(triangles) <= TRIANGLES_MOST:
        return False
    if not all([is_triangle(triangle) for triangle in triangles]) or len(set(triangles)) != len(triangles):
        return False
    beside = beside_ties(triangles)
    if not all([len(indexes) == 2 for indexes in beside.values()]):
        return False
    for place in sorted(set([place for triangle in triangles for place in triangle])):
        around = {tie: beside[tie] for tie in beside if place in tie}
        if not hang_together([at for at, triangle in enumerate(triangles) if place in triangle], around):
            return False
    return hang_together(list(range(len(triangles))), beside)


def hang_together(indexes, beside):
    """Whether over these ties, each with the pair beside it, all of indexes can be led to."""
    return len(led_from(indexes[0], beside)) == len(indexes)


def led_from(first, beside):
    """The dict from the numbers led to over ties, each with the pair beside it, to the ties, None for the first."""
    near = {}
    for tie in sorted(beside):
        one, other = beside[tie]
        near.setdefault(one, []).append((other, tie))
        near.setdefault(other, []).append((one, tie))
    found = {first: None}
    reached = [first]
    while len(reached) > 0:
        further = []
        for one in reached:
            for other, tie in near.get(one, []):
                if other not in found:
                    found[other] = tie
                    further.append(other)
        reached = further
    return found


def tie_turn(triangle, tie):
    """1 if the triangle goes a tie from its lower to its higher place, -1 if it goes back by it."""
    if ties_of(triangle)[2] == tie:
        return -1
    return 1


def is_turned_alike(surface, tie):
    """Whether the two triangles with a tie go it in both directions as they are."""
    one, other = [surface.triangles[at] for at in surface.pair_beside(tie)]
    return tie_turn(one, tie) != tie_turn(other, tie)


def turns_from(surface, first, ties):
    """The dict from the indexes led to over these ties to 1 or -1: how they are turned if the first one is as it is."""
    beside = {tie: surface.pair_beside(tie) for tie in ties}
    turns = {}
    # Each one is led to from one that comes ahead of it.
    for at, tie in led_from(first, beside).items():
        if tie is None:
            turns[at] = 1
        elif is_turned_alike(surface, tie):
            turns[at] = turns[surface.other_beside(tie, at)]
        else:
            turns[at] = -turns[surface.other_beside(tie, at)]
    return turns


def turns_of(surface):
    """The dict from the indexes of the triangles to 1 or -1, such that ties are gone in both directions, or None."""
    turns = turns_from(surface, 0, surface.ties)
    for tie in surface.ties:
        one, other = surface.pair_beside(tie)
        if is_turned_alike(surface, tie) != (turns[one] == turns[other]):
            return None
    return turns


def turned_by(triangle, turn):
    """The triangle as it is, or gone round the other way."""
    if turn == 1:
        return triangle
    return (triangle[0], triangle[2], triangle[1])


def kind_of(surface):
    """What kind tells."""
    count = len(surface.places) - len(surface.ties) + len(surface.triangles)
    if turns_of(surface) is None:
        return (1, 2 - count)
    return (2, (2 - count) // 2)


def double_of(surface):
    """The surface that lies over one of one side.

    Over a place lie the two ways to turn what is around it, over a triangle its own two turns; each of these goes to
    the turns of its places that it agrees with.
    """
    agrees = {}
    for place in surface.places:
        first = [place in triangle for triangle in surface.triangles].index(True)
        turns = turns_from(surface, first, [tie for tie in surface.ties if place in tie])
        for at in turns:
            agrees[(place, at)] = turns[at]
    found = []
    for at, triangle in enumerate(surface.triangles):
        for turn in (1, -1):
            found.append(tuple([2 * place + (1 - turn * agrees[(place, at)]) // 2 for place in triangle]))
    return Surface(found)


def way_over(over, way):
    """The way in a doubled surface that lies over way and begins at 2 * its first place."""
    found = [2 * way[0]]
    for place in way[1:]:
        following = 2 * place + found[-1] % 2
        if place != found[-1] // 2 and not over.are_spot((found[-1], following)):
            following = 4 * place + 1 - following
        found.append(following)
    return tuple(found)
