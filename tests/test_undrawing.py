"""[93]: loops drawn together, and papers that they can't be."""

import itertools
import random
import time

from tests.helping import ODD, Case, kinds
from tests.shapes import (FOUR_HOLES, GRID, KLEIN, PLANE, SURFACES, TETRAHEDRON, THREE_PLANES, TORUS, TWO_HOLES, is_spot,
                          near_places, plain_pushed, plain_ties, some_drawn_loop, some_loop, some_way, way_back)
from tests.test_drawing import NO_WAYS
from tests.test_polygons import plain_rest, plain_word
from tests.test_surfaces import NO_SURFACES
from waitless.drawing import led
from waitless.errors import BadLoop, BadSurface, TooMany
from waitless.polygons import cutting, is_cutting, rim, word
from waitless.surfaces import Surface, doubled, kind
from waitless.undrawing import drawn, is_undrawn, undrawn

SMALL = [(surface, sides, holes) for surface, sides, holes in SURFACES if sides == 2 or len(surface.triangles) <= 30]
SEVEN = Surface(TORUS)
SIX = Surface(PLANE)
TWO = Surface(TWO_HOLES)


def count_along(weights, way):
    total = 0
    for one, other in zip(way, way[1:]):
        total += weights[one, other] if one < other else -weights[other, one] if other < one else 0
    return total


def way_above(over, loop):
    """The way over loop that begins at 2 * its first place."""
    near, found = near_places(over), [2 * loop[0]]
    for one, place in zip(loop, loop[1:]):
        found.append(found[-1] if one == place else [other for other in near[found[-1]] if other // 2 == place][0])
    return tuple(found)


def is_plain_paper(surface, loop, thing):
    """Whether thing, a paper built rightly, shows by its own words that loop can't be drawn together."""
    if thing[0] == "weights":
        _, modulus, weights = thing
        rounds = [weights[low, middle] + weights[middle, high] - weights[low, high] for low, middle, high in surface.triangles]
        told = count_along(weights, loop)
        if modulus == 2:
            return all(one % 2 == 0 for one in rounds) and told % 2 == 1
        return modulus == 0 and not any(rounds) and told != 0
    if thing[0] == "word":
        _, cut, pushes = thing
        if kind(surface)[0] != 2 or kind(surface)[1] < 2 or not is_cutting(surface, cut):
            return False
        way = loop
        for push in pushes:
            way = plain_pushed(surface, way, push)
            if way is None:
                return False
        if any(tuple(sorted(step)) in cut[1] for step in zip(way, way[1:])):
            return False
        letters = plain_word(cut, way)
        return letters != () and plain_rest(letters, word(surface, cut, rim(surface, cut))) == letters
    over = doubled(surface)
    above = way_above(over, loop)
    return above[0] == above[-1] and is_plain_paper(over, above, thing[1])


class Undrawing(Case):
    def check(self, surface, loop):
        """What is told of loop is right by itself; whether it is drawn together."""
        pushes, paper = drawn(surface, loop), undrawn(surface, loop)
        self.assertEqual([pushes is None, paper is None].count(True), 1)
        if pushes is not None:
            self.assertIsInstance(pushes, list)
            self.assertEqual(set(led(surface, loop, pushes)), {loop[0]})
            return True
        self.assertTrue(is_plain_paper(surface, loop, paper))
        self.assertIs(is_undrawn(surface, loop, paper), True)
        if paper[0] == "weights":
            self.assertEqual(list(paper[2]), plain_ties(surface))
        return False

    def test_by_hand(self):
        four = Surface(TETRAHEDRON)
        self.assertEqual(self.same(drawn, "surface loop", four, (0,)), [])
        self.assertTrue(self.check(four, (0, 1, 2, 3, 0)))
        self.assertIsNone(self.same(undrawn, "surface loop", four, (0, 1, 2, 3, 0)))
        self.assertTrue(self.check(SEVEN, (0, 1, 3, 0)))
        self.assertFalse(self.check(SEVEN, (0, 1, 2, 3, 4, 5, 6, 0)))
        self.assertIsNone(drawn(SEVEN, (0, 1, 2, 3, 4, 5, 6, 0)))
        self.assertFalse(self.check(SIX, (0, 1, 2, 0)))
        self.assertTrue(self.check(SIX, (0, 1, 2, 0, 1, 2, 0)))
        self.assertEqual(self.same(undrawn, "surface loop", SIX, (0, 1, 2, 0))[:2], ("weights", 2))

    def test_all_short_loops_on_a_torus(self):
        # Over the torus lies the plane: a step by 1, 2, 3 leads by (1, 0), (0, 1), (1, 1).
        by = {0: (0, 0), 1: (1, 0), 2: (0, 1), 3: (1, 1), 4: (-1, -1), 5: (0, -1), 6: (-1, 0)}
        for steps in itertools.product(range(7), repeat=4):
            if sum(steps) % 7:
                continue
            loop = tuple(sum(steps[:at]) % 7 for at in range(5))
            there = tuple(sum(by[step][side] for step in steps) for side in (0, 1))
            self.assertEqual(self.check(SEVEN, loop), there == (0, 0))
        chance = random.Random(931)
        for _ in range(250):
            loop = some_loop(chance, SEVEN, chance.randint(4, 40), chance.randrange(7))
            steps = [(other - one) % 7 for one, other in zip(loop, loop[1:])]
            there = tuple(sum(by[step][side] for step in steps) for side in (0, 1))
            self.assertEqual(self.check(SEVEN, loop), there == (0, 0))

    def test_all_short_loops_that_pushes_lead_to(self):
        # All loops of few places that pushes, with loops no longer between, make out of one place.
        for triangles, length in ((TETRAHEDRON, 6), (PLANE, 6), (TORUS, 5)):
            surface = Surface(triangles)
            near = near_places(surface)
            met, waiting = {(0,) * length}, [(0,) * length]
            while waiting:
                loop = waiting.pop()
                # Two places are changed at once, so that loops of one length are enough.
                for out in range(1, length - 1):
                    if is_spot(surface, loop[out - 1:out + 2]):
                        less = loop[:out] + loop[out + 1:]
                        for at in range(length - 2):
                            for place in near[less[at]] + [less[at]]:
                                more = less[:at + 1] + (place,) + less[at + 1:]
                                if more not in met and is_spot(surface, (less[at], place, less[at + 1])):
                                    met.add(more)
                                    waiting.append(more)
            self.assertGreater(len(met), 60)
            for loop in random.Random(932).sample(sorted(met), min(len(met), 500)):
                self.assertTrue(self.check(surface, loop), loop)

    def test_all_short_loops_on_one_side(self):
        # Weights that are even around each triangle, but not along all loops, tell all there is to tell here.
        ties = plain_ties(SIX)
        for told in itertools.product((0, 1), repeat=len(ties)):
            weights = dict(zip(ties, told))
            even = all((weights[a, b] + weights[b, c] + weights[a, c]) % 2 == 0 for a, b, c in SIX.triangles)
            if even and (weights[0, 1] + weights[1, 2] + weights[0, 2]) % 2:
                break
        near = near_places(SIX)
        loops = [(0,)]
        for _ in range(5):
            loops = [loop + (place,) for loop in loops for place in near[loop[-1]]]
        loops = [loop for loop in loops if loop[-1] == 0]
        self.assertEqual(len(loops), 520)
        for loop in loops:
            self.assertEqual(self.check(SIX, loop), count_along(weights, loop) % 2 == 0)

    def test_loops_on_a_bottle(self):
        # Over it lies the plane: behind each 3 squares it is turned over.
        surface = Surface(KLEIN)
        chance = random.Random(933)
        names = sorted({self.place(at, up) for at in range(3) for up in range(5)})
        for _ in range(200):
            loop = some_loop(chance, surface, chance.randint(3, 30))
            at, up = names[loop[0]]
            for one, other in zip(loop, loop[1:]):
                if one != other:
                    found = [spot for spot in self.beside(at, up) if self.place(*spot) == names[other]]
                    self.assertEqual(len(found), 1)
                    at, up = found[0]
            self.assertEqual(self.check(surface, loop), (at, up) == names[loop[0]])

    def beside(self, at, up):
        """The spots of the plane that are tied to one."""
        ahead = (at + 1, up + 1) if at // 3 % 2 == 0 else (at + 1, up - 1)
        behind = (at - 1, up - 1) if (at - 1) // 3 % 2 == 0 else (at - 1, up + 1)
        return [(at + 1, up), (at - 1, up), (at, up + 1), (at, up - 1), ahead, behind]

    def place(self, at, up):
        """The place of the bottle under a place of the plane."""
        return (at % 3, (up if at // 3 % 2 == 0 else -up) % 5)

    def test_loops_that_pushes_make(self):
        chance = random.Random(934)
        for surface, _, _ in SMALL:
            for number in range(12):
                self.assertTrue(self.check(surface, some_drawn_loop(chance, surface, 10 * number)))

    def test_loops_around_rims(self):
        # Rims walked to and back from, one behind the other, and some of them within the way back of others.
        chance = random.Random(939)
        for surface, sides, holes in SMALL:
            if holes == 0:
                continue
            cut = cutting(surface)
            around = rim(surface, cut)
            for number in range(8):
                base = chance.choice(surface.places)
                loop = (base, base)
                for _ in range(chance.randint(1, 3)):
                    way = some_way(chance, surface, chance.randint(0, 6), base)
                    at = chance.choice([at for at, place in enumerate(around) if place == way[-1]])
                    piece = around[at:-1] + around[:at + 1]
                    piece = chance.choice((piece, piece[::-1]))
                    told = way + piece[1:] + way[::-1][1:]
                    spots = [at for at, place in enumerate(loop) if place == base]
                    at = chance.choice(spots)
                    loop = loop[:at] + told + loop[at + 1:]
                self.assertTrue(self.check(surface, loop))
                if sides == 2:
                    self.check_broken(chance, surface, around, loop)

    def check_broken(self, chance, surface, around, loop):
        """Half a rim put into a loop that can be drawn together makes one that can't be, or can: it is told rightly."""
        at = chance.randrange(len(around) - 1)
        half = around[at:at + len(around) // 2]
        self.check(surface, way_back(surface, half))
        other = way_back(surface, half)
        if other[0] in loop:
            spot = loop.index(other[0])
            joined_loop = loop[:spot] + other + loop[spot + 1:]
            self.assertEqual(self.check(surface, joined_loop), self.check(surface, other))

    def test_loops_by_chance(self):
        chance = random.Random(935)
        for surface, sides, holes in SMALL:
            met = set()
            for _ in range(60):
                loop = some_loop(chance, surface, chance.randint(0, 25))
                if chance.random() < 0.5:
                    other = some_loop(chance, surface, chance.randint(3, 12), loop[0])
                    loop = loop + other[1:] + loop[::-1][1:] + other[::-1][1:]
                self.check(surface, loop)
                paper = undrawn(surface, loop)
                if paper is not None:
                    met.add((paper[0], paper[1][0] if paper[0] == "double" else None))
            wanted = {(2, 0): set(), (2, 1): {("weights", None)}, (1, 1): {("weights", None)},
                      (1, 2): {("weights", None), ("double", "weights")}}
            if sides == 2 and holes > 1:
                self.assertEqual(met, {("weights", None), ("word", None)})
            elif (sides, holes) in wanted:
                self.assertEqual(met, wanted[sides, holes])
            else:
                self.assertLessEqual({("weights", None), ("double", "weights")}, met)

    def test_words_by_turns_of_a_few_things(self):
        # Turns of four things for all ties, such that around each triangle nothing is turned: what is drawn together turns
        # nothing, and most of what can't be is turned by some of them.
        chance = random.Random(936)
        every = list(itertools.permutations(range(4)))
        for surface in (TWO, Surface(THREE_PLANES)):
            found = []
            while len(found) < 40:
                turns = self.some_turns(chance, surface, every)
                if turns is not None:
                    found.append(turns)
            shown = left = 0
            for number in range(120):
                one = some_loop(chance, surface, chance.randint(4, 14))
                other = some_loop(chance, surface, chance.randint(4, 14), one[0])
                loop = one + other[1:] + one[::-1][1:] + other[::-1][1:]
                turned = any(self.turned(turns, loop) != (0, 1, 2, 3) for turns in found)
                if self.check(surface, loop):
                    self.assertFalse(turned)
                else:
                    shown += turned
                    left += not turned
            self.assertGreater(shown, 4 * left)

    def some_turns(self, chance, surface, every):
        """Turns by chance for the letters of the cutting; None if they don't fit."""
        tree, crossed = cutting(surface)
        turns = {tie: (0, 1, 2, 3) if tie in tree else chance.choice(every) for tie in surface.ties if tie not in crossed}
        while len(turns) < len(surface.ties):
            for low, middle, high in surface.triangles:
                ties = [(low, middle), (middle, high), (low, high)]
                lacking = [tie for tie in ties if tie not in turns]
                if len(lacking) == 1:
                    one, other = [turns.get(tie) for tie in ties[:2]]
                    across = turns.get((low, high))
                    for turn in every:
                        if lacking == ties[:1]:
                            one = turn
                        elif lacking == ties[1:2]:
                            other = turn
                        else:
                            across = turn
                        if tuple(other[at] for at in one) == across:
                            turns[lacking[0]] = turn
                            break
        for low, middle, high in surface.triangles:
            if tuple(turns[middle, high][at] for at in turns[low, middle]) != turns[low, high]:
                return None
        return turns

    def turned(self, turns, loop):
        held = (0, 1, 2, 3)
        for one, other in zip(loop, loop[1:]):
            if one < other:
                held = tuple(turns[one, other][at] for at in held)
            elif other < one:
                held = tuple(turns[other, one].index(at) for at in held)
        return held

    def some_papers(self):
        chance = random.Random(937)
        met = {}
        for surface in (SEVEN, SIX, TWO, Surface(THREE_PLANES)):
            for _ in range(200):
                loop = some_loop(chance, surface, chance.randint(3, 14))
                if chance.random() < 0.5:
                    other = some_loop(chance, surface, 8, loop[0])
                    loop = loop + other[1:] + loop[::-1][1:] + other[::-1][1:]
                paper = undrawn(surface, loop)
                if paper is not None:
                    met.setdefault((surface.triangles, paper[0], paper[1][0] if paper[0] == "double" else None),
                                   (surface, loop, paper))
        return list(met.values())

    def test_judged(self):
        found = self.some_papers()
        self.assertEqual({paper[0] for _, _, paper in found}, {"weights", "word", "double"})
        for surface, loop, paper in found:
            for thing in ODD + [list(paper), paper + (0,), paper[:-1], paper[1:], (paper,), ("weigh",) + paper[1:], (None,) + paper[1:]]:
                self.assertIs(is_undrawn(surface, loop, thing), False)
            self.assertIs(self.same(is_undrawn, "surface loop thing", surface, loop, paper), True)
            back = loop[::-1]
            self.assertIs(is_undrawn(surface, (loop[0],), paper), False)
            if paper[0] != "double" and paper[0] != "word":
                self.assertIs(is_undrawn(surface, back, paper), True)
            if paper[0] == "weights":
                self.check_weights(surface, loop, paper)
            elif paper[0] == "word":
                self.check_word(surface, loop, paper)
            else:
                self.assertIs(is_undrawn(doubled(surface), way_above(doubled(surface), loop), paper[1]), True)
                self.assertIs(is_undrawn(surface, loop, paper[1]), False)
                self.assertIs(is_undrawn(surface, loop, ("double", paper)), False)

    def check_weights(self, surface, loop, paper):
        _, modulus, weights = paper
        for other in (1, 3, -2, True, None, "2", 2.0, 2 - modulus):
            wanted = type(other) is int and other in (0, 2) and is_plain_paper(surface, loop, ("weights", other, weights))
            self.assertIs(is_undrawn(surface, loop, ("weights", other, weights)), wanted)
        for tie in weights:
            less = {one: weights[one] for one in weights if one != tie}
            for changed in (less, {**less, tie[::-1]: weights[tie]}, {**less, (tie[0], float(tie[1])): weights[tie]},
                            {**less, tie: None}, {**less, tie: True}, {**less, tie: float(weights[tie])},
                            {**weights, (100, 101): 0}, {**less, (0, True): weights[tie]}):
                self.assertIs(is_undrawn(surface, loop, ("weights", modulus, changed)), False)
            for more in (1, 2, -1, 10 ** 30):
                changed = {**weights, tie: weights[tie] + more}
                self.assertIs(is_undrawn(surface, loop, ("weights", modulus, changed)),
                              is_plain_paper(surface, loop, ("weights", modulus, changed)))
        for first, second in itertools.combinations(list(weights)[:8], 2):
            changed = {**weights, first: weights[second], second: weights[first]}
            self.assertIs(is_undrawn(surface, loop, ("weights", modulus, changed)),
                          is_plain_paper(surface, loop, ("weights", modulus, changed)))
        # A change at one place counts nothing around.
        for place in surface.places:
            changed = {tie: weights[tie] + 5 * (tie[0] == place) - 5 * (tie[1] == place) for tie in weights}
            self.assertIs(is_undrawn(surface, loop, ("weights", modulus, changed)), True)
        for other in (list(weights.items()), None, 0, [], (), "", set(weights)):
            self.assertIs(is_undrawn(surface, loop, ("weights", modulus, other)), False)
        self.assertIs(is_undrawn(surface, loop + loop[1:], paper), modulus == 0)
        self.assertIs(is_undrawn(surface, loop, ("weights", modulus, {tie: 0 for tie in weights})), False)

    def check_word(self, surface, loop, paper):
        _, cut, pushes = paper
        self.assertIs(is_undrawn(surface, (loop[0],), ("word", cut, [])), False)
        self.assertIs(is_undrawn(surface, loop + loop[::-1][1:], ("word", cut, [])), False)
        self.assertIs(is_undrawn(surface, loop, ("word", cut, tuple(pushes))), True)
        for changed in (None, {}, 0, pushes + [None], pushes + [("out", 0)], [("out", 0)] + pushes):
            self.assertIs(is_undrawn(surface, loop, ("word", cut, changed)), False)
        for other in (None, cut[::-1], (cut[0], cut[1][1:]), (cut[0][1:], cut[1]), list(cut), ()):
            self.assertIs(is_undrawn(surface, loop, ("word", other, pushes)), False)
        for at in list(range(len(pushes)))[:40]:
            for changed in (pushes[:at] + pushes[at + 1:], pushes[:at] + pushes[at:at + 1] + pushes[at:],
                            pushes[:at] + pushes[at:at + 2][::-1] + pushes[at + 2:], pushes[:at]):
                self.assertIs(is_undrawn(surface, loop, ("word", cut, changed)),
                              is_plain_paper(surface, loop, ("word", cut, changed)))
        # What could be made shorter is no paper, though nothing is wrong with its pushes.
        around = rim(surface, cut)
        if around[0] == loop[0]:
            self.assertIs(is_undrawn(surface, around, ("word", cut, [])), False)
        self.assertIs(is_undrawn(SEVEN, (0, 1, 2, 3, 4, 5, 6, 0), ("word", cutting(SEVEN), [])), False)

    def test_stretches_of_half_the_ring_and_more(self):
        cut = cutting(TWO)
        around = rim(TWO, cut)
        ring = word(TWO, cut, around)
        near = {}
        for one, other in cut[0]:
            near.setdefault(one, []).append(other)
            near.setdefault(other, []).append(one)
        count = {}
        for first in range(len(around) - 1):
            turned = around[first:-1] + around[:first + 1]
            for length in range(2, len(turned)):
                back = self.tree_way(near, turned[length - 1], turned[0])
                for loop in (turned[:length] + back[1:], (turned[:length] + back[1:])[::-1]):
                    letters = plain_word(cut, loop)
                    if len(letters) in (1, 4, 5, 6, 7):
                        count[len(letters)] = True
                        self.assertIs(is_undrawn(TWO, loop, ("word", cut, [])), len(letters) <= len(ring) // 2)
        self.assertEqual(sorted(count), [1, 4, 5, 6, 7])

    def tree_way(self, near, one, other):
        """The way along a tree."""
        ways = [(one,)]
        while True:
            for way in ways:
                if way[-1] == other:
                    return way
            ways = [way + (place,) for way in ways for place in near[way[-1]] if place not in way]

    def test_doubles_of_loops_that_turn_over(self):
        # The way over such a loop is none, so that nothing that is told of it counts.
        over = doubled(SIX)
        weights = {(one, other): other * other - one * one for one, other in plain_ties(over)}
        loop = (0, 1, 2, 0)
        self.assertNotEqual(count_along(weights, way_above(over, loop)), 0)
        self.assertIs(is_undrawn(SIX, loop, ("double", ("weights", 0, weights))), False)

    def test_ways_over_crossed_ties_have_no_words(self):
        cut = cutting(TWO)
        near = near_places(TWO)
        tree = {}
        for one, other in cut[0]:
            tree.setdefault(one, []).append(other)
            tree.setdefault(other, []).append(one)
        letter = [tie for tie in TWO.ties if tie not in cut[0] + cut[1]][0]
        for crossed in cut[1]:
            for one, other in (crossed, crossed[::-1]):
                loop = letter + self.tree_way(tree, letter[1], one)[1:] + (other,) + self.tree_way(tree, other, letter[0])[1:]
                self.assertIn(other, near[one])
                self.assertIs(is_undrawn(TWO, loop, ("word", cut, [])), False)

    def test_no_words_on_one_side(self):
        for triangles in (PLANE, THREE_PLANES, TORUS):
            surface = Surface(triangles)
            cut = cutting(surface)
            loop = rim(surface, cut)
            letters = [tie for tie in surface.ties if tie not in cut[0] + cut[1]]
            near = {}
            for one, other in cut[0]:
                near.setdefault(one, []).append(other)
                near.setdefault(other, []).append(one)
            for letter in letters:
                loop = letter + self.tree_way(near, letter[1], letter[0])[1:]
                self.assertFalse(self.check(surface, loop))
                self.assertIs(is_undrawn(surface, loop, ("word", cut, [])), False)

    def test_words_that_could_be_made_shorter(self):
        cut = cutting(TWO)
        around = rim(TWO, cut)
        self.assertIs(is_undrawn(TWO, around, ("word", cut, [])), False)
        for at in range(1, len(around) - 1):
            loop = around[at:-1] + around[:at + 1]
            self.assertIs(is_undrawn(TWO, loop, ("word", cut, [])), False)
            self.assertTrue(self.check(TWO, loop))

    def test_wrong_parameters(self):
        loop = (0, 1, 3, 0)
        no_loops = [way for way in NO_WAYS if way != (0, 4)] + [(0, 1), (0, 1, 3), (0, 7, 0), [0, 1, 3, 0]]
        for called in (drawn, undrawn):
            self.wrong(called, [SEVEN, loop], (BadSurface, NO_SURFACES), (BadLoop, no_loops))
        self.wrong(is_undrawn, [SEVEN, loop, None], (BadSurface, NO_SURFACES), (BadLoop, no_loops), (BadLoop, []))
        great = Surface([tuple(50 if place == 5 else place for place in triangle) for triangle in PLANE])
        last = Surface([tuple(49 if place == 5 else place for place in triangle) for triangle in PLANE])
        whole = Surface([tuple(place + 50 for place in triangle) for triangle in TORUS])
        for told in ((drawn,), (undrawn,), (is_undrawn, None)):
            called, more = told[0], told[1:]
            self.assertIsNone(self.told(TooMany, called, great, (0,), *more).most)
            self.told(BadLoop, called, great, (0, 1), *more)
            called(last, (0, 1, 4, 0), *more)
            called(whole, (50,), *more)
        self.assertEqual(drawn(whole, (50,)), [])

    def test_long_loops_and_large_surfaces(self):
        begun = time.monotonic()
        chance = random.Random(938)
        for surface in (Surface(FOUR_HOLES), Surface(GRID), Surface(THREE_PLANES)):
            for steps in (100, 1000):
                one = some_loop(chance, surface, steps)
                self.check(surface, one)
                self.assertTrue(self.check(surface, one + one[::-1][1:]))
        x = tuple(6 * (at % 5) for at in range(5 * 12 + 1))
        y = tuple(at % 6 for at in range(6 * 12 + 1))
        loop = x + y[1:] + x[::-1][1:] + y[::-1][1:]
        pushes = drawn(Surface(GRID), loop)
        self.assertEqual(set(led(Surface(GRID), loop, pushes)), {0})
        self.assertFalse(self.check(Surface(GRID), x + y[1:]))
        self.assertLess(time.monotonic() - begun, 60)
