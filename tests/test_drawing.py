"""[91]: ways, and pushes that draw them."""

import random
import time

from tests.helping import ODD, Case, kinds
from tests.shapes import (GRID, OCTAHEDRON, PLANE, SURFACES, TETRAHEDRON, TORUS, all_pushes, is_plain_way, plain_pushed, some_loop, some_way)
from tests.test_surfaces import NO_SURFACES
from waitless.drawing import led, pushed
from waitless.errors import BadPush, BadSurface, BadWay
from waitless.surfaces import Surface

FOUR = Surface(TETRAHEDRON)
SEVEN = Surface(TORUS)
NO_WAYS = [None, True, 0, [0, 1], (), [], (0, 4), (0, True), (False,), ("0",), (0, 1.0), ((0, 1),), {0: 1}, "01", (0, None), (-1,),
           (10 ** 30,), Surface(TETRAHEDRON)]
NO_PUSHES = [None, True, 0, (), [], "in", ("in",), ("in", 0), ("in", 0, 1, 2), ["in", 0, 2], ("out",), ("out", 1, 1), ["out", 1],
             ("on", 1), (0, 1), ("in", 0, 4), ("in", 0, -1), ("in", True, 2), ("in", 0, True), ("in", 0, None), ("out", True),
             ("out", 0), ("out", 3), ("out", -1), ("in", 3, 2), ("in", -1, 2), ("in", 10 ** 30, 2), ("out", None), ("in", "0", 2),
             ("in", 0.0, 2), ("in", 0, 2.0), ("out", 1.0), (None, 1), (True, 1), ("In", 0, 2), ("in", 0, 10 ** 30), {"in": 0}]


class Drawing(Case):
    def test_by_hand(self):
        self.assertEqual(self.same(pushed, "surface way push", FOUR, (0, 1), ("in", 0, 2)), (0, 2, 1))
        self.assertEqual(pushed(FOUR, (0, 2, 1), ("out", 1)), (0, 1))
        self.assertEqual(pushed(FOUR, (0, 0), ("in", 0, 3)), (0, 3, 0))
        self.assertEqual(pushed(FOUR, (0, 1), ("in", 0, 1)), (0, 1, 1))
        self.assertEqual(pushed(FOUR, (0, 1, 2, 3), ("out", 2)), (0, 1, 3))
        self.assertEqual(self.same(led, "surface way pushes", FOUR, (0, 1), [("in", 0, 2), ("in", 1, 3), ("out", 1)]), (0, 3, 1))
        self.assertEqual(led(FOUR, (2,), []), (2,))
        self.assertEqual(led(FOUR, (2,), ()), (2,))

    def test_each_push(self):
        chance = random.Random(911)
        for surface, _, _ in SURFACES:
            for _ in range(4):
                way = some_way(chance, surface, chance.randint(0, 5))
                let = set(all_pushes(surface, way))
                every = [("out", at) for at in range(-1, len(way) + 1)]
                every += [("in", at, place) for at in range(-1, len(way) + 1) for place in surface.places + (100,)]
                for push in every:
                    if push in let:
                        found = pushed(surface, way, push)
                        self.assertEqual(found, plain_pushed(surface, way, push))
                        self.assertTrue(is_plain_way(surface, found))
                    else:
                        self.assertEqual(self.told(BadPush, pushed, surface, way, push).at, 0)

    def test_there_and_back(self):
        chance = random.Random(912)
        for surface, _, _ in SURFACES:
            way = some_loop(chance, surface, 12)
            gone, pushes, backs = way, [], []
            for _ in range(60):
                push = chance.choice(list(all_pushes(surface, gone)))
                backs.append(("out", push[1] + 1) if push[0] == "in" else ("in", push[1] - 1, gone[push[1]]))
                gone = plain_pushed(surface, gone, push)
                pushes.append(push)
            self.assertEqual(led(surface, way, pushes), gone)
            self.assertEqual(led(surface, way, tuple(pushes)), gone)
            self.assertEqual(led(surface, gone, backs[::-1]), way)
            self.assertEqual(led(surface, way, pushes + backs[::-1]), way)

    def test_the_first_push_that_cannot_be_done(self):
        right = [("in", 0, 2), ("out", 1)]
        for push in NO_PUSHES + ODD:
            for count in range(5):
                pushes = (right * 3)[:count]
                raised = self.told(BadPush, led, FOUR, (0, 1), pushes + [push] + right + [None])
                self.assertEqual(kinds(raised.at), kinds(count))
        # A push is right or wrong where it is done.
        self.assertEqual(self.told(BadPush, led, FOUR, (0, 1), [("in", 0, 2), ("out", 1), ("out", 1)]).at, 2)

    def test_wrong_parameters(self):
        no_lists = [None, True, 0, "in", {}, {0: ("in", 0, 2)}, set(), FOUR]
        self.wrong(pushed, [FOUR, (0, 1, 2), ("out", 1)], (BadSurface, NO_SURFACES), (BadWay, NO_WAYS), (BadPush, NO_PUSHES))
        self.wrong(led, [FOUR, (0, 1, 2), []], (BadSurface, NO_SURFACES), (BadWay, NO_WAYS), (BadPush, no_lists))
        for pushes in no_lists:
            self.assertIsNone(self.told(BadPush, led, FOUR, (0, 1), pushes).at)
        for push in NO_PUSHES:
            self.assertEqual(kinds(self.told(BadPush, pushed, FOUR, (0, 1, 2), push).at), "0")
        for thing in ODD:
            if not (isinstance(thing, tuple) and thing and all(type(place) is int and place in range(4) for place in thing)):
                self.told(BadWay, pushed, FOUR, thing, ("out", 1))
        self.told(BadWay, led, Surface(PLANE), (0, 6), [])
        # Two places across from one another aren't tied.
        for way in ((0, 5), (0, 1, 3), (1, 2, 4), (1, 1, 3), (3, 1, 1)):
            self.told(BadWay, led, Surface(OCTAHEDRON), way, [])
            self.told(BadWay, pushed, Surface(OCTAHEDRON), way, ("out", 1))
        self.assertEqual(led(SEVEN, (0, 6), []), (0, 6))

    def test_long_ways(self):
        begun = time.monotonic()
        chance = random.Random(913)
        surface = Surface(GRID)
        way = some_way(chance, surface, 4000)
        pushes = []
        for _ in range(4000):
            at = chance.randrange(len(way) - 1)
            pushes.append(("in", at, way[at]))
            pushes.append(("out", at + 1))
        self.assertEqual(led(surface, way, pushes), way)
        self.assertLess(time.monotonic() - begun, 60)
