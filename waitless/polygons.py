"""Polygons: surfaces cut open along ties until one polygon is left, and ways read off by the ties that are cut."""

from waitless.drawing import ask_way
from waitless.errors import BadCutting, BadSurface, Crossed
from waitless.judging import is_number, is_pair, is_rising
from waitless.surfaces import ask_surface, kind_of, led_from

HOLES_LEAST = 2


def cutting(surface):
    """A cutting of surface: the ties of a tree of all places, and those over which all triangles hang together."""
    ask_surface(surface)
    return cutting_of(surface)


def is_cutting(surface, thing):
    """Whether thing, of any value, is a cutting of surface."""
    ask_surface(surface)
    return makes_cutting(surface, thing)


def rim(surface, cutting):
    """The loop around all triangles laid together over the crossed ties of cutting."""
    ask_surface(surface)
    ask_cutting(surface, cutting)
    corners = laid_together(surface, cutting[1])[0]
    return tuple(corners + corners[:1])


def word(surface, cutting, way):
    """The tuple of the letters of way, without those that are gone back at once."""
    ask_surface(surface)
    ask_cutting(surface, cutting)
    ask_way(surface, way)
    return asked_word(cutting, way)


def rest(surface, cutting, way):
    """The word of way, in which stretches of more than half of the rim's word are exchanged for the shorter ones."""
    ask_surface(surface)
    if kind_of(surface)[0] == 1 or kind_of(surface)[1] < HOLES_LEAST:
        raise BadSurface("a surface with two sides and two holes or more is asked for")
    ask_cutting(surface, cutting)
    ask_way(surface, way)
    return shortened(asked_word(cutting, way), ring_of(surface, cutting))


def ask_cutting(surface, cutting):
    """BadCutting unless cutting is one of surface."""
    if not makes_cutting(surface, cutting):
        raise BadCutting("a cutting is a pair of the ties of a tree and of crossed ties")


def asked_word(cutting, way):
    """The word of way; Crossed if it goes over a crossed tie."""
    letters = word_of(cutting, way)
    if letters is None:
        raise Crossed("the way goes over a crossed tie")
    return letters


def cutting_of(surface):
    """What the function cutting tells."""
    ends = {tie: tie for tie in surface.ties}
    tree = [tie for tie in led_from(surface.places[0], ends).values() if tie is not None]
    beside = {tie: surface.pair_beside(tie) for tie in surface.ties if tie not in tree}
    crossed = [tie for tie in led_from(0, beside).values() if tie is not None]
    return (tuple(sorted(tree)), tuple(sorted(crossed)))


def makes_cutting(surface, thing):
    """Whether thing is a cutting of surface."""
    if not is_pair(thing) or not all([are_ties_of(surface, ties) for ties in thing]):
        return False
    tree, crossed = thing
    if len(tree) != len(surface.places) - 1 or len(crossed) != len(surface.triangles) - 1:
        return False
    if not all([tie not in tree for tie in crossed]):
        return False
    # One tie fewer than what they lead to, so that they lead to all only if there is no round.
    found = led_from(surface.places[0], {tie: tie for tie in tree})
    beside = {tie: surface.pair_beside(tie) for tie in crossed}
    return len(found) == len(surface.places) and len(led_from(0, beside)) == len(surface.triangles)


def are_ties_of(surface, thing):
    """Whether thing is an ascending tuple of ties of surface."""
    if not isinstance(thing, tuple) or len(thing) > len(surface.ties):
        return False
    if not all([is_tie(surface, tie) for tie in thing]):
        return False
    return is_rising(thing)


def is_tie(surface, thing):
    """Whether thing is a tie of surface."""
    # Only numbers may be looked up: True would be found in the place of 1.
    return is_pair(thing) and is_number(thing[0]) and is_number(thing[1]) and thing in surface.ties


def laid_together(surface, crossed):
    """The pair of the places around the polygon of all triangles, and the triples of corners of its triangles.

    A corner is told by its number around the polygon.
    """
    places = list(surface.triangles[0])
    around = [0, 1, 2]
    triangles = [(0, 1, 2)]
    owners = {(0, 1): 0, (1, 2): 0, (2, 0): 0}
    at = 0
    while at < len(around):
        side = (around[at], around[(at + 1) % len(around)])
        tie = tuple(sorted([places[side[0]], places[side[1]]]))
        if tie in crossed:
            # A crossed tie is at the rim only as long as the triangle behind it is not laid there.
            behind = surface.other_beside(tie, owners[side])
            corner = len(places)
            places.append([place for place in surface.triangles[behind] if place not in tie][0])
            around.insert(at + 1, corner)
            triangles.append((side[0], side[1], corner))
            owners[(side[0], corner)] = behind
            owners[(corner, side[1])] = behind
        else:
            at += 1
    number = {corner: at for at, corner in enumerate(around)}
    return ([places[corner] for corner in around], [tuple([number[one] for one in some]) for some in triangles])


def word_of(cutting, way):
    """The word of way, None if it goes over a crossed tie."""
    tree = {tie: True for tie in cutting[0]}
    crossed = {tie: True for tie in cutting[1]}
    letters = []
    for at in range(len(way) - 1):
        step = (way[at], way[at + 1])
        tie = tuple(sorted(step))
        if tie in crossed:
            return None
        if step[0] != step[1] and tie not in tree:
            letters.append(step)
    return tuple(without_returns(letters))


def without_returns(letters):
    """The list of letters without those that are gone back at once, again and again."""
    found = []
    for letter in letters:
        if len(found) > 0 and found[-1] == back(letter):
            found.pop()
        else:
            found.append(letter)
    return found


def back(letter):
    """The letter gone the other way."""
    return (letter[1], letter[0])


def backwards(letters):
    """The list of letters gone backwards."""
    return [back(letter) for letter in letters[::-1]]


def ring_of(surface, cutting):
    """The list of the letters around the rim."""
    corners = laid_together(surface, cutting[1])[0]
    return list(word_of(cutting, corners + corners[:1]))


def followers(ring):
    """The dict from the letters of the ring to the next ones there; with two sides each letter stands there once."""
    return {ring[at - 1]: ring[at] for at in range(len(ring))}


def lengths_along(letters, ahead):
    """The list with, for each of letters, how many from it on are a stretch of the ring, ahead telling what follows."""
    lengths = []
    for at in range(len(letters) - 1, -1, -1):
        if len(lengths) > 0 and ahead[letters[at]] == letters[at + 1]:
            lengths.append(min(lengths[-1] + 1, len(ahead)))
        else:
            lengths.append(1)
    return lengths[::-1]


def longest_stretch(letters, ring):
    """The first longest stretch of the ring, or of it backwards, that stands in letters.

    A triple of where it begins, its length, and the list of the letters that remain of the ring behind it.
    """
    best = (0, 0, [])
    for some in (ring, backwards(ring)):
        ahead = followers(some)
        lengths = lengths_along(letters, ahead)
        for at, length in enumerate(lengths):
            if length > best[1] or (length == best[1] and at < best[0]):
                end = some.index(letters[at + length - 1]) + 1
                best = (at, length, (some[end:] + some[:end])[:len(some) - length])
    return best


def shortened(letters, ring):
    """The word of letters, in which stretches of more than half of the ring are exchanged for what remains of it."""
    found = list(letters)
    at, length, remains = longest_stretch(found, ring)
    while 2 * length > len(ring):
        found = without_returns(found[:at] + backwards(remains) + found[at + length:])
        at, length, remains = longest_stretch(found, ring)
    return tuple(found)
