"""[92]: cuttings, rims, words and rests."""

import itertools
import random
import time

from tests.helping import ODD, Case, changes, kinds
from tests.shapes import (FOUR_HOLES, OCTAHEDRON, PLANE, SURFACES, TETRAHEDRON, THREE_PLANES, TORUS, TWO_HOLES, near_places,
                          some_drawn_loop, some_loop, some_way)
from tests.test_drawing import NO_WAYS
from tests.test_surfaces import NO_SURFACES
from waitless.errors import BadCutting, BadSurface, BadWay, Crossed
from waitless.polygons import cutting, is_cutting, rest, rim, word
from waitless.surfaces import Surface
from waitless.undrawing import drawn

FOUR = Surface(TETRAHEDRON)
TWO = Surface(TWO_HOLES)


def hang(names, ties):
    """Whether ties lead each of names to each, without a round."""
    return grows(names, ties) and len(ties) == len(names) - 1


def is_plain_cutting(surface, tree, crossed):
    """Whether two sets of ties make a cutting."""
    over = [tuple(at for at, triangle in enumerate(surface.triangles) if set(tie) <= set(triangle)) for tie in crossed]
    return (not set(tree) & set(crossed) and hang(surface.places, tree)
            and hang(range(len(surface.triangles)), over))


def some_cutting(chance, surface):
    """A cutting taken by chance."""
    tree, crossed = [], []
    for tie in chance.sample(surface.ties, len(surface.ties)):
        if grows(surface.places, tree + [tie]):
            tree.append(tie)
    over = {tie: tuple(at for at, triangle in enumerate(surface.triangles) if set(tie) <= set(triangle)) for tie in surface.ties}
    for tie in chance.sample(surface.ties, len(surface.ties)):
        if tie not in tree and grows(range(len(surface.triangles)), [over[one] for one in crossed + [tie]]):
            crossed.append(tie)
    return (tuple(sorted(tree)), tuple(sorted(crossed)))


def grows(names, ties):
    """Whether ties have no round."""
    piece = {name: name for name in names}
    for one, other in ties:
        if piece[one] == piece[other]:
            return False
        old, new = piece[one], piece[other]
        piece = {name: new if piece[name] == old else piece[name] for name in names}
    return True


def letters_of(surface, cut):
    return [tie for tie in surface.ties if tie not in cut[0] + cut[1]]


def plain_word(cut, way):
    """The letters of a way, returns left out one by one."""
    found = [(one, other) for one, other in zip(way, way[1:]) if one != other and tuple(sorted((one, other))) not in cut[0]]
    return without_returns(found)


def without_returns(letters):
    letters = list(letters)
    at = 0
    while at < len(letters) - 1:
        if letters[at] == letters[at + 1][::-1]:
            letters[at:at + 2] = []
            at = 0
        else:
            at += 1
    return tuple(letters)


def plain_rest(letters, ring):
    """The word of letters, with the first longest stretch exchanged, again and again."""
    size = len(ring)
    rings = [list(ring), [letter[::-1] for letter in ring][::-1]]
    while True:
        found = None
        for length in range(min(size, len(letters)), size // 2, -1):
            for at in range(len(letters) - length + 1):
                for some in rings:
                    for first in range(size):
                        turned = some[first:] + some[:first]
                        if tuple(turned[:length]) == letters[at:at + length] and found is None:
                            found = (at, length, [letter[::-1] for letter in turned[length:]][::-1])
        if found is None:
            return letters
        at, length, others = found
        letters = without_returns(letters[:at] + tuple(others) + letters[at + length:])


def uncrossed(chance, surface, cut, steps, first=None):
    """A way by chance over no crossed tie."""
    near = near_places(surface)
    way = [chance.choice(surface.places) if first is None else first]
    for _ in range(steps):
        way.append(chance.choice([place for place in near[way[-1]] + [way[-1]] if tuple(sorted((way[-1], place))) not in cut[1]]))
    return tuple(way)


class Cuttings(Case):
    def test_by_hand(self):
        cut = (((0, 1), (0, 2), (0, 3)), ((1, 2), (1, 3), (2, 3)))
        self.assertIs(self.same(is_cutting, "surface thing", FOUR, cut), True)
        found = self.same(rim, "surface cutting", FOUR, cut)
        self.assertIn(len(found), (7,))
        self.assertEqual(word(FOUR, cut, (1, 0, 2)), ())
        self.told(Crossed, word, FOUR, cut, (0, 1, 2))
        cut = (((0, 1), (1, 2), (2, 3)), ((0, 2), (0, 3), (1, 3)))
        self.assertIs(is_cutting(FOUR, cut), True)
        self.assertEqual(set(rim(FOUR, cut)), {0, 1, 2, 3})

    def test_cuttings_of_all_surfaces(self):
        for surface, sides, holes in SURFACES:
            cut = self.same(cutting, "surface", surface)
            self.assertTrue(is_plain_cutting(surface, *cut))
            self.assertIs(is_cutting(surface, cut), True)
            self.assertEqual([list(ties) for ties in cut], [sorted(ties) for ties in cut])
            self.assertEqual(len(letters_of(surface, cut)), 2 * holes if sides == 2 else holes)

    def test_all_pairs_of_sets_of_ties(self):
        for first in itertools.combinations(FOUR.ties, 3):
            for second in itertools.combinations(FOUR.ties, 3):
                self.assertIs(is_cutting(FOUR, (first, second)), is_plain_cutting(FOUR, first, second))
        chance = random.Random(921)
        eight, seven = Surface(OCTAHEDRON), Surface(TORUS)
        for surface in (eight, seven, Surface(PLANE)):
            for _ in range(150):
                cut = some_cutting(chance, surface)
                self.assertIs(is_cutting(surface, cut), is_plain_cutting(surface, *cut))
                spare = [tie for tie in surface.ties if tie not in cut[0] + cut[1]]
                for at in (0, 1):
                    for tie in cut[at]:
                        less = tuple(one for one in cut[at] if one != tie)
                        self.assertIs(is_cutting(surface, cut[:at] + (less,) + cut[at + 1:]), False)
                        other = tuple(sorted(less + (chance.choice(surface.ties),)))
                        changed = cut[:at] + (other,) + cut[at + 1:]
                        wanted = len(set(other)) == len(other) and is_plain_cutting(surface, *changed)
                        self.assertIs(is_cutting(surface, changed), wanted)
                    for tie in spare[:1] + [cut[1 - at][0]]:
                        more = tuple(sorted(cut[at] + (tie,)))
                        self.assertIs(is_cutting(surface, cut[:at] + (more,) + cut[at + 1:]), False)

    def test_judged(self):
        for surface in (FOUR, Surface(PLANE)):
            cut = cutting(surface)
            for thing in ODD:
                self.assertIs(is_cutting(surface, thing), False)
            for other in changes(cut):
                wanted = False
                if isinstance(other, tuple) and len(other) == 2 and all(isinstance(ties, tuple) for ties in other):
                    if all(kinds(tie) in map(kinds, surface.ties) for ties in other for tie in ties):
                        wanted = all(list(ties) == sorted(set(ties)) for ties in other) and is_plain_cutting(surface, *other)
                self.assertIs(is_cutting(surface, other), wanted, other)
            self.assertIs(is_cutting(surface, cut[::-1]), is_plain_cutting(surface, *cut[::-1]))
            self.assertIs(is_cutting(surface, list(cut)), False)

    def test_rims(self):
        chance = random.Random(922)
        for surface, sides, _ in SURFACES:
            for cut in [cutting(surface)] + [some_cutting(chance, surface) for _ in range(8)]:
                found = rim(surface, cut)
                self.assertIsInstance(found, tuple)
                self.assertEqual(found[0], found[-1])
                self.assertEqual(len(found), len(surface.triangles) + 3)
                steps = list(zip(found, found[1:]))
                gone = sorted(tuple(sorted(step)) for step in steps)
                self.assertEqual(gone, sorted([tie for tie in surface.ties if tie not in cut[1]] * 2))
                if sides == 2:
                    self.assertEqual(len(set(steps)), len(steps))
                for (one, place), (_, other) in zip(steps, steps[1:] + steps[:1]):
                    self.assertTrue(self.turns_over_crossed(surface, cut, one, place, other))

    def turns_over_crossed(self, surface, cut, one, place, other):
        """Whether triangles around place lead over crossed ties from the tie of one to that of other."""
        around = [triangle for triangle in surface.triangles if place in triangle]
        for first in [triangle for triangle in around if one in triangle]:
            last, triangle = one, first
            for _ in around:
                last = [spot for spot in triangle if spot not in (place, last)][0]
                if last == other:
                    return True
                if tuple(sorted((place, last))) not in cut[1]:
                    break
                triangle = [some for some in around if last in some and some != triangle][0]
        return False

    def test_words(self):
        chance = random.Random(923)
        for surface, sides, holes in SURFACES:
            for cut in (cutting(surface), some_cutting(chance, surface)):
                ring = word(surface, cut, rim(surface, cut))
                letters = letters_of(surface, cut)
                if sides == 2:
                    self.assertEqual(sorted(ring), sorted(letters + [letter[::-1] for letter in letters]))
                else:
                    self.assertEqual(sorted(tuple(sorted(letter)) for letter in ring), sorted(letters * 2))
                for _ in range(15):
                    way = uncrossed(chance, surface, cut, 25)
                    self.assertEqual(self.same(word, "surface cutting way", surface, cut, way), plain_word(cut, way))
                    self.assertEqual(word(surface, cut, way + way[::-1]), ())
                for way in (some_way(chance, surface, 20) for _ in range(10)):
                    if any(tuple(sorted(step)) in cut[1] for step in zip(way, way[1:])):
                        self.told(Crossed, word, surface, cut, way)
                    else:
                        self.assertEqual(word(surface, cut, way), plain_word(cut, way))

    def test_rests(self):
        chance = random.Random(924)
        for surface, sides, holes in SURFACES:
            if sides == 1 or holes < 2:
                continue
            for cut in [cutting(surface)] + [some_cutting(chance, surface) for _ in range(3)]:
                loop = rim(surface, cut)
                ring = word(surface, cut, loop)
                self.assertEqual(self.same(rest, "surface cutting way", surface, cut, loop), ())
                self.assertEqual(rest(surface, cut, loop + loop[1:] + loop[1:]), ())
                for _ in range(25):
                    way = (chance.choice(surface.places),)
                    for _ in range(chance.randint(1, 4)):
                        way = way + uncrossed(chance, surface, cut, chance.randint(0, 6), way[-1])[1:]
                        way = way + self.along_rim(chance, loop, way[-1])[1:]
                    self.assertEqual(rest(surface, cut, way), plain_rest(word(surface, cut, way), ring))

    def along_rim(self, chance, loop, place):
        """A way along the rim from place on, in one direction or the other."""
        around = loop[:-1] if chance.random() < 0.5 else loop[:0:-1]
        first = around.index(place)
        return ((around[first:] + around[:first]) * 2)[:chance.randint(1, 2 * len(around))]

    def test_rests_tell_what_can_be_drawn(self):
        chance = random.Random(925)
        for surface, sides, holes in SURFACES:
            if sides == 1 or holes < 2:
                continue
            for number in range(60):
                cut = some_cutting(chance, surface) if number % 2 else cutting(surface)
                loop = some_drawn_loop(chance, surface, 80) if number % 3 == 0 else some_loop(chance, surface, 12)
                if any(tuple(sorted(step)) in cut[1] for step in zip(loop, loop[1:])):
                    loop = self.around(surface, cut, loop)
                self.assertEqual(rest(surface, cut, loop) == (), drawn(surface, loop) is not None)
                # Ways that aren't closed are meant to be closed along the tree.
                self.assertEqual(rest(surface, cut, loop[:-1] + loop[-1:]), rest(surface, cut, loop))

    def around(self, surface, cut, loop):
        """A loop that is drawn over triangles until it goes over no crossed tie."""
        found, at = list(loop), 0
        polygon = self.sides_away(surface, cut)
        while at < len(found) - 1:
            tie = tuple(sorted(found[at:at + 2]))
            if tie in polygon:
                found.insert(at + 1, polygon[tie])
            else:
                at += 1
        return tuple(found)

    def sides_away(self, surface, cut):
        """For each crossed tie the third place of the triangle behind it, seen from the first triangle."""
        found, met, waiting = {}, {0}, [0]
        while waiting:
            one = waiting.pop()
            for tie in cut[1]:
                pair = [at for at, triangle in enumerate(surface.triangles) if set(tie) <= set(triangle)]
                if one in pair and sum(pair) - one not in met:
                    other = sum(pair) - one
                    met.add(other)
                    waiting.append(other)
                    found[tie] = [place for place in surface.triangles[other] if place not in tie][0]
        return found

    def test_ways_that_are_not_closed(self):
        cut = cutting(TWO)
        letter = letters_of(TWO, cut)[0]
        self.assertEqual(rest(TWO, cut, letter), (letter,))
        self.assertEqual(word(TWO, cut, letter[::-1]), (letter[::-1],))
        self.assertEqual(word(TWO, cut, letter + letter[:1] + letter), (letter,))
        self.assertEqual(rest(TWO, cut, (3,)), ())

    def test_wrong_parameters(self):
        cut = cutting(TWO)
        no_cuttings = [None, True, 0, (), cut[::-1], list(cut), (cut[0],), cut + ((),), (cut[0][1:], cut[1]), (cut[0], cut[1][1:]),
                       ((), ()), (cut[0], cut[0]), (cut[0][::-1], cut[1]), cutting(FOUR), TWO]
        no_ways = [way for way in NO_WAYS if way != (0, 4)] + [(0, 99)]
        self.wrong(cutting, [TWO], (BadSurface, NO_SURFACES))
        self.wrong(is_cutting, [TWO, cut], (BadSurface, NO_SURFACES), (BadSurface, []))
        self.wrong(rim, [TWO, cut], (BadSurface, NO_SURFACES), (BadCutting, no_cuttings))
        for called in (word, rest):
            self.wrong(called, [TWO, cut, (0,)], (BadSurface, NO_SURFACES), (BadCutting, no_cuttings), (BadWay, no_ways))
            crossed = cut[1][0]
            self.told(Crossed, called, TWO, cut, crossed)
            self.told(BadWay, called, TWO, cut, list(crossed))
        for triangles in (TETRAHEDRON, TORUS, PLANE, THREE_PLANES):
            surface = Surface(triangles)
            self.told(BadSurface, rest, surface, cutting(surface), (0,))
            self.told(BadSurface, rest, surface, None, None)

    def test_large_surfaces(self):
        begun = time.monotonic()
        chance = random.Random(926)
        surface = Surface(FOUR_HOLES)
        cut = cutting(surface)
        loop = rim(surface, cut)
        way = loop
        for _ in range(40):
            way = way + uncrossed(chance, surface, cut, 6, loop[0])[1:]
            way = way + way[::-1][1:4]
            if way[-1] == loop[0]:
                way = way + loop[1:]
            else:
                way = way + way[::-1][1:]
            way = way[:2000]
        rest(surface, cut, way)
        word(surface, cut, way)
        self.assertLess(time.monotonic() - begun, 60)
