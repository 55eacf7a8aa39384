"""[90]: closed surfaces of triangles."""

import itertools
import random
import time

from tests.helping import ODD, TASK, Case, kinds
from tests.shapes import (BOTTLE, GRID, KINDS, OCTAHEDRON, PLANE, SURFACES, TETRAHEDRON, TORUS, joined, named, near_places,
                          plain_side_count, plain_ties, some_way)
from waitless.errors import BadSurface, TooMany
from waitless.surfaces import Surface, doubled, kind, turning

NO_SURFACES = [None, True, 0, [], TETRAHEDRON, TASK, Surface, ()]


def is_plain_surface(triangles):
    """Whether different triangles make a closed surface, told by the rims around places."""
    ties = [tie for triangle in triangles for tie in itertools.combinations(triangle, 2)]
    if not triangles or any(ties.count(tie) != 2 for tie in ties):
        return False
    for place in {place for triangle in triangles for place in triangle}:
        rim = [tuple(one for one in triangle if one != place) for triangle in triangles if place in triangle]
        around, last = [rim[0][0]], rim[0]
        while True:
            around.append(last[0] if last[1] == around[-1] else last[1])
            if around[-1] == around[0]:
                break
            last = [tie for tie in rim if around[-1] in tie and tie != last][0]
        if len(around) != len(rim) + 1:
            return False
    met, waiting = {triangles[0]}, [triangles[0]]
    while waiting:
        one = waiting.pop()
        more = [other for other in triangles if len(set(one) & set(other)) == 2 and other not in met]
        met.update(more)
        waiting.extend(more)
    return len(met) == len(triangles)


class Surfaces(Case):
    def test_by_hand(self):
        surface = Surface(triangles=TETRAHEDRON[::-1])
        self.assertEqual(surface.triangles, ((0, 1, 2), (0, 1, 3), (0, 2, 3), (1, 2, 3)))
        self.assertEqual(surface.places, (0, 1, 2, 3))
        self.assertEqual(surface.ties, ((0, 1), (0, 2), (0, 3), (1, 2), (1, 3), (2, 3)))
        self.assertIn(self.same(turning, "surface", surface), (((0, 1, 2), (0, 3, 1), (0, 2, 3), (1, 3, 2)),
                                                               ((0, 2, 1), (0, 1, 3), (0, 3, 2), (1, 2, 3))))
        self.assertEqual(self.same(kind, "surface", surface), (2, 0))
        self.assertIsNone(turning(Surface(PLANE)))
        self.assertEqual([kind(Surface(some)) for some in (TORUS, PLANE, BOTTLE)], [(2, 1), (1, 1), (1, 2)])

    def test_kinds(self):
        for surface, sides, holes in SURFACES:
            self.assertEqual(kind(surface), (sides, holes))
            self.assertEqual(sides, plain_side_count(surface))
            count = len(surface.places) - len(surface.ties) + len(surface.triangles)
            self.assertEqual(holes, (2 - count) // 2 if sides == 2 else 2 - count)
            self.assertEqual(surface.ties, tuple(plain_ties(surface)))
            self.assertEqual(surface.places, tuple(sorted(near_places(surface))))

    def test_turnings(self):
        for surface, sides, _ in SURFACES:
            turned = turning(surface)
            if sides == 1:
                self.assertIsNone(turned)
                continue
            self.assertIsInstance(turned, tuple)
            for one, other in zip(turned, surface.triangles):
                self.assertIn(one, (other, (other[0], other[2], other[1])))
            steps = sorted((one[at], one[(at + 1) % 3]) for one in turned for at in range(3))
            self.assertEqual(steps, sorted([tie for tie in surface.ties] + [tie[::-1] for tie in surface.ties]))

    def test_all_sets_of_triangles_of_five_places(self):
        every = list(itertools.combinations(range(5), 3))
        count = 0
        for size in range(1, 11):
            for triangles in itertools.combinations(every, size):
                if is_plain_surface(triangles):
                    count += 1
                    self.assertEqual(Surface(list(triangles)).triangles, triangles)
                else:
                    self.told(BadSurface, Surface, list(triangles))
        # 5 ways to leave one place out, and the double pyramids over each triangle of places.
        self.assertEqual(count, 5 + 10)

    def test_surfaces_with_a_change(self):
        chance = random.Random(901)
        for triangles, _, _ in KINDS:
            for _ in range(10):
                one = list(triangles)
                at = chance.randrange(len(one))
                removed = one.pop(at)
                self.told(BadSurface, Surface, one)
                self.told(BadSurface, Surface, one + [one[0]])
                self.told(BadSurface, Surface, one + [removed, removed])
                self.told(BadSurface, Surface, one + [removed[::-1]])
                self.assertEqual(Surface(one + [removed]), Surface(triangles))
        self.told(BadSurface, Surface, [(0, 1, 2), (0, 1, 2)])
        # Two that are apart, that have a place alike, that have a tie alike.
        other = [tuple(place + 4 for place in triangle) for triangle in TETRAHEDRON]
        self.told(BadSurface, Surface, TETRAHEDRON + other)
        self.told(BadSurface, Surface, TETRAHEDRON + [tuple(place + 3 for place in triangle) for triangle in TETRAHEDRON])
        self.told(BadSurface, Surface, TETRAHEDRON + [tuple(place + 2 for place in triangle) for triangle in TETRAHEDRON])
        # A sphere of which two places are made one.
        ring = [(low, high) for low in range(6) for high in [(low + 1) % 6]]
        pyramid = [tuple(sorted((low, high, top))) for low, high in ring for top in (6, 7)]
        Surface(pyramid)
        self.told(BadSurface, Surface, [tuple(sorted(0 if place == 3 else place for place in some)) for some in pyramid])

    def test_wrong_triangles(self):
        right = TETRAHEDRON
        wrong = [None, True, 0, {}, "012", [], (), set(right), {one: 1 for one in right}, right[:-1], right + [right[0]],
                 [list(one) for one in right], right[:-1] + [(1, 3, 2)], right[:-1] + [(1, 2, 2)], right[:-1] + [(1, 2)],
                 right[:-1] + [(1, 2, 3, 4)], right[:-1] + [(True, 2, 3)], right[:-1] + [(1, 2, "3")], [(False, 1, 2)] + right[1:],
                 right[:-1] + [(1, 2, 3.0)], right[:-1] + [None], [tuple(place - 1 for place in one) for one in right],
                 [tuple(place + 97 for place in one) for one in right], [tuple(10 ** 30 + place for place in one) for one in right]]
        for triangles in wrong:
            self.told(BadSurface, Surface, triangles)
        for thing in ODD:
            self.told(BadSurface, Surface, thing)
        self.assertEqual(Surface(tuple(right)), Surface(right))
        self.assertEqual(Surface([tuple(place + 96 for place in one) for one in right]).places, (96, 97, 98, 99))

    def test_sixty_triangles_and_more(self):
        self.assertEqual(len(Surface(GRID).triangles), 60)
        ring = [(low, (low + 1) % 31) for low in range(31)]
        self.told(BadSurface, Surface, [tuple(sorted((low, high, top))) for low, high in ring for top in (31, 32)])
        ring = [(low, (low + 1) % 30) for low in range(30)]
        self.assertEqual(kind(Surface([tuple(sorted((low, high, top))) for low, high in ring for top in (31, 32)])), (2, 0))

    def test_equality(self):
        chance = random.Random(902)
        for triangles, _, _ in KINDS:
            mixed = chance.sample(triangles, len(triangles))
            self.assertEqual(Surface(mixed), Surface(triangles))
            self.assertEqual(kinds(Surface(mixed).ties), kinds(Surface(triangles).ties))
            self.assertEqual((turning(Surface(mixed)), kind(Surface(mixed))), (turning(Surface(triangles)), kind(Surface(triangles))))
        self.assertNotEqual(Surface(TETRAHEDRON), Surface(OCTAHEDRON))
        self.assertNotEqual(Surface(TETRAHEDRON), Surface([tuple(place + 1 for place in one) for one in TETRAHEDRON]))
        for thing in ODD + [Surface(TETRAHEDRON).triangles, TETRAHEDRON]:
            self.assertIs(Surface(TETRAHEDRON) == thing, False)

    def test_nothing_is_tied_to_the_inside(self):
        triangles = list(TETRAHEDRON)
        surface = Surface(triangles)
        triangles.clear()
        self.assertEqual(surface, Surface(TETRAHEDRON))

    def test_doubled(self):
        chance = random.Random(903)
        for surface, sides, holes in SURFACES:
            if sides == 2 or len(surface.triangles) > 30:
                continue
            over = self.doubled_twice(surface)
            self.assertEqual(kind(over), (2, holes - 1))
            self.assertEqual(over.places, tuple(range(2 * len(surface.places))))
            above = {}
            for triangle in over.triangles:
                above.setdefault(tuple(place // 2 for place in triangle), []).append(triangle)
            self.assertEqual(sorted(above), list(surface.triangles))
            for pair in above.values():
                self.assertEqual(len(pair), 2)
                self.assertFalse(set(pair[0]) & set(pair[1]))
            near = near_places(over)
            for _ in range(30):
                way = some_way(chance, surface, 20)
                ways = [(2 * way[0],)]
                for place in way[1:]:
                    ways = [one + (other,) for one in ways for other in near[one[-1]] + [one[-1]] if other // 2 == place]
                self.assertEqual(len(ways), 1)

    def doubled_twice(self, surface):
        over = doubled(surface)
        self.assertEqual((doubled(surface=surface), doubled(surface)), (over, over))
        return over

    def test_doubled_names_stay(self):
        surface = Surface([tuple(place + 44 for place in triangle) for triangle in PLANE])
        self.assertEqual(doubled(surface).places, tuple(range(88, 100)))

    def test_wrong_parameters(self):
        for called in (turning, kind, doubled):
            self.wrong(called, [Surface(PLANE)], (BadSurface, NO_SURFACES))
        for surface, sides, _ in SURFACES:
            if sides == 2:
                self.told(TooMany if len(surface.triangles) > 30 else BadSurface, doubled, surface)
        # A place above 49, whichever, comes first.
        for triangles, error in ((PLANE, None), (TETRAHEDRON, BadSurface)):
            last = max(place for triangle in triangles for place in triangle)
            for greatest, raised in ((49, error), (50, TooMany)):
                moved = Surface([tuple(greatest if place == last else place for place in triangle) for triangle in triangles])
                if raised is None:
                    self.assertEqual(doubled(moved).places[-1], 99)
                else:
                    found = self.told(raised, doubled, moved)
                    self.assertIsNone(getattr(found, "most", None))
        # 30 triangles, and two more.
        thirty = named([tuple(triangle) for triangle in self.split(joined(joined(PLANE, PLANE), PLANE), 2)])
        self.assertEqual(len(thirty), 30)
        self.assertEqual(len(doubled(Surface(thirty)).triangles), 60)
        self.assertIsNone(self.told(TooMany, doubled, Surface(self.split(thirty, 1))).most)

    def split(self, triangles, times):
        """Triangles of which some are cut into three, around a new place."""
        for _ in range(times):
            low, middle, high = triangles[0]
            new = 1 + max(place for triangle in triangles for place in triangle)
            triangles = triangles[1:] + [(low, middle, new), (low, high, new), (middle, high, new)]
        return triangles

    def test_many_surfaces(self):
        begun = time.monotonic()
        for surface, _, _ in SURFACES * 5:
            Surface(surface.triangles)
            kind(surface)
        self.assertLess(time.monotonic() - begun, 60)
