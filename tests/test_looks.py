"""[40] to [43]: looks, turned rounds, and which weavings come so."""

import itertools
import random
import time
import unittest

from tests.helping import (NO_HAND, NO_NUMBERS, NO_ROUNDS, ODD, Case, changes, deep_view, fubini, kinds,
                           plain_blocks, plain_courses, plain_end, plain_sights)
from waitless.errors import (BadCorner, BadCourse, BadHand, BadLooks, BadMany, BadRounds, BadView, BadWeaving, TooMany)
from waitless.looks import is_whole, looks_of
from waitless.orders import by_looks, course_for, hold, is_hold
from waitless.turned import looks_in, turned, weaving_for

VALUES = (5, 8, 5, 999999999)
NO_MANY = NO_NUMBERS + [0, 5, -1]
NO_LOOKS = NO_NUMBERS + [0, 21, -1]
NO_WEAVINGS = [None, 0, True, [0, 1], "01", (2,), (0, 2), (True,), (0, True), (0, -1), (0, "1"), (0, (1,)), {0: 1}]
NO_WHOLES = NO_WEAVINGS + [(), (0, 1), (0, 0), (0, 0, 1), (0, 0, 1, 1, 1, 1), (0, 0, 0, 1, 1, 1), (0, 0, 1, 1, 2, 2)]
NO_COURSES = [None, [], (((0,),),), (((0, 1), (0,)),), (((0, True),),), (((0, 2),),), (((0, 1),),) * 41]
WHOLE = (0, 1, 0, 0, 1, 0, 1, 1)


def row_of(many):
    """A row of the hands below many."""
    return tuple(enumerate(VALUES[:many]))


def plain_looks(many, weaving):
    """The looks of each hand: every second step."""
    steps = {hand: [at for at, other in enumerate(weaving) if other == hand] for hand in range(many)}
    return {hand: [tuple(len([one for one in steps[other][::2] if one < at]) for other in range(many))
                   for at in steps[hand][1::2]] for hand in range(many)}


def plain_known(many, weaving, hand, number):
    """What hand knows behind so many of its looks."""
    looks = plain_looks(many, weaving)
    known = [(hand, VALUES[hand], tuple(looks[hand][:number]))]
    for other, puts in enumerate(looks[hand][number - 1]):
        if other != hand and puts > 0:
            known.append((other, VALUES[other], tuple(looks[other][:puts - 1])))
    return tuple(sorted(known))


def plain_looks_in(many, course, looks):
    """[41], told by the words."""
    holds = {hand: [int(hand == other) for other in range(many)] for hand in range(many)}
    found = {hand: [] for hand in range(many)}
    for number, blocks in enumerate(course, 1):
        sees = plain_sights(blocks)
        holds = {hand: [max(holds[one][other] for one in sees[hand]) for other in range(many)]
                 for hand in range(many)}
        for hand in range(many):
            if sum(holds[hand]) == number and len(found[hand]) < looks:
                found[hand].append((number, tuple(holds[hand])))
                if len(found[hand]) < looks:
                    holds[hand][hand] += 1
    return found


def plain_weaving(many, course, looks):
    """The weaving for the looks, told by the words."""
    found = plain_looks_in(many, course, looks)
    weaving, puts = [], [0] * many
    for number in range(1, len(course) + 1):
        looking = [hand for hand in range(many) for at, _ in found[hand] if at == number]
        shown = [look for hand in range(many) for at, look in found[hand] if at == number]
        if shown:
            assert len(set(shown)) == 1
            for hand in range(many):
                weaving += [hand] * (shown[0][hand] - puts[hand])
            puts = list(shown[0])
            weaving += looking
    return tuple(weaving)


def wholes(many, looks):
    """All whole weavings."""
    def led(left):
        if not any(left):
            yield ()
        for hand in range(many):
            if left[hand]:
                for rest in led(left[:hand] + (left[hand] - 1,) + left[hand + 1:]):
                    yield (hand,) + rest
    return led((2 * looks,) * many)


def some_whole(chance, many, looks):
    """A whole weaving by chance, of one kind or another."""
    if chance.random() < 0.3:
        steps = [hand for hand in range(many) for _ in range(2 * looks)]
        chance.shuffle(steps)
        return tuple(steps)
    left, steps, share = [2 * looks] * many, [], chance.choice([0.3, 0.6, 0.9])
    while any(left):
        for hand in chance.sample(range(many), many):
            if left[hand] and chance.random() < share:
                steps.append(hand)
                left[hand] -= 1
    return tuple(steps)


def plain_holds(many, weaving):
    """All holds, told by the words."""
    looking = [weaving[:at].count(hand) % 2 == 1 for at, hand in enumerate(weaving)]
    found = set()
    for at in range(len(weaving)):
        if not looking[at]:
            continue
        stand = {weaving[other] for other in range(len(weaving)) if all(looking[min(at, other):max(at, other) + 1])}
        last = max(other for other in range(at, len(weaving)) if all(looking[at:other + 1]))
        for hand in set(range(many)) - stand:
            if weaving[:last + 1].count(hand) % 2 == 1:
                look = weaving.index(hand, last + 1)
                if all(weaving[other] in stand for other in range(last + 1, look) if not looking[other]):
                    found.add((at, hand))
    return found


class Looks(Case):
    def test_looks_of(self):
        self.assertEqual(looks_of(2, (0, 1, 0, 1)), {0: [(1, 1)], 1: [(1, 1)]})
        for many in (1, 2, 3, 4):
            for length in range(6):
                for weaving in itertools.product(range(many), repeat=length):
                    found = looks_of(many, weaving)
                    self.assertEqual(found, plain_looks(many, weaving))
                    self.assertEqual(list(found), list(range(many)))
        found = self.same(looks_of, "many weaving", 3, (0, 1, 1, 0, 2, 1))
        found[0].clear()
        self.assertEqual(looks_of(3, (0, 0)), {0: [(1, 0, 0)], 1: [], 2: []})
        long = (0, 1) * 5000
        self.assertEqual(looks_of(2, long)[1][-1], (2500, 2500))
        self.wrong(looks_of, [2, (0, 1)], (BadMany, NO_MANY), (BadWeaving, NO_WEAVINGS))

    def test_is_whole(self):
        for many in (1, 2, 3):
            for length in range(9 if many < 3 else 7):
                for weaving in itertools.product(range(many + 1), repeat=length):
                    counts = {weaving.count(hand) for hand in range(many)}
                    right = len(counts) == 1 and min(counts) > 0 and min(counts) % 2 == 0 and many not in weaving
                    self.assertIs(is_whole(many, weaving), right)
        self.assertIs(is_whole(many=2, thing=WHOLE), True)
        for thing in NO_WHOLES:
            self.assertIs(is_whole(2, thing), False)
        for thing in ODD + [(0, False), (0, 0.0), [0, 0], (0, 0, 1, True)]:
            for many in (1, 2):
                right = type(thing) is tuple and len(thing) < 99 and all(type(hand) is int for hand in thing) and \
                    len({thing.count(hand) for hand in range(many)}) == 1 and len(thing) == many * thing.count(0) and \
                    thing.count(0) in (2, 4)
                self.assertIs(is_whole(many, thing), right)
        for other in changes(WHOLE):
            right = type(other) is tuple and [other.count(hand) for hand in (0, 1)] in ([2, 2], [4, 4]) and all(
                type(hand) is int for hand in other) and len(other) in (4, 8)
            self.assertIs(is_whole(2, other), right)
        self.wrong(is_whole, [2, WHOLE], (BadMany, NO_MANY), (None, []))


class Turned(Case):
    def test_example(self):
        course = (((0, 1),),) * 2
        self.assertEqual(looks_in(2, course, 1), {0: [(2, (1, 1))], 1: [(2, (1, 1))]})
        self.assertEqual(weaving_for(2, course, 1), (0, 1, 0, 1))

    def check(self, many, course, looks):
        told = looks_in(many, course, looks)
        plain = plain_looks_in(many, course, looks)
        self.assertEqual(told, plain)
        weaving = weaving_for(many, course, looks)
        self.assertEqual(weaving, plain_weaving(many, course, looks))
        had = {hand: [look for _, look in told[hand]] for hand in told}
        self.assertEqual({hand: plain_looks(many, weaving)[hand] for hand in range(many)}, had)
        ends = sorted((number, look) for hand in told for number, look in told[hand])
        for (number, look), (later, further) in zip(ends, ends[1:]):
            self.assertEqual(number == later, look == further)
            self.assertTrue(all(x <= y for x, y in zip(look, further)))
        if len(course) >= many * looks:
            self.assertEqual({len(had[hand]) for hand in had}, {looks})
        if len(course) <= 6:
            views = plain_end(row_of(many), course)
            for hand in range(many):
                known = [plain_known(many, weaving, hand, number) for number in range(1, len(had[hand]) + 1)]
                self.assertEqual(turned(many, hand, len(course), views[hand], looks), known)

    def test_all_short_courses(self):
        for many, rounds in ((1, 6), (2, 0), (2, 1), (2, 3), (2, 4), (2, 6), (3, 2), (3, 3), (4, 1)):
            for course in plain_courses(tuple(range(many)), rounds):
                for looks in (1, 2, 3):
                    if rounds < 6 or looks == 3 or many == 1:
                        self.check(many, course, looks)

    def test_courses_by_chance(self):
        chance = random.Random(1)
        begun = time.monotonic()
        for _ in range(150):
            many = chance.choice([3, 4])
            blocks = plain_blocks(tuple(range(many)))
            few = chance.sample(blocks, chance.choice([2, 4, len(blocks)]))
            self.check(many, tuple(chance.choice(few) for _ in range(6)), chance.choice([1, 2, 20]))
            self.check(many, tuple(chance.choice(few) for _ in range(40)), chance.choice([1, 5, 10, 20]))
        together = (((0, 1, 2, 3),),) * 40
        self.assertEqual([number for number, _ in looks_in(4, together, 20)[2]], list(range(4, 41, 4)))
        self.check(1, (((0,),),) * 40, 20)
        self.assertLess(time.monotonic() - begun, 60)

    def test_by_position_and_by_name(self):
        course = (((0,), (1,)), ((0, 1),), ((1,), (0,)))
        view = plain_end(row_of(2), course)[0]
        found = self.same(looks_in, "many course looks", 2, course, 2)
        self.assertEqual(list(found), [0, 1])
        found[0].clear()
        self.assertTrue(looks_in(2, course, 2)[0])
        self.same(weaving_for, "many course looks", 2, course, 2)
        told = self.same(turned, "many hand rounds view looks", 2, 0, 3, view, 2)
        told.clear()
        self.assertTrue(turned(2, 0, 3, view, 2))
        # A hand that was never seen need not be there.
        self.assertEqual(turned(3, 1, 1, ((1, 8),), 1), [((1, 8, ((0, 1, 0),)),)])

    def test_wrong_parameters(self):
        course = (((0, 1),),)
        for called in (looks_in, weaving_for):
            self.wrong(called, [2, course, 1], (BadMany, NO_MANY), (BadCourse, NO_COURSES), (BadLooks, NO_LOOKS))
        view = ((0, 5), (1, 8))
        self.wrong(turned, [2, 0, 1, view, 1], (BadMany, NO_MANY), (BadHand, NO_HAND + [2, 3]), (BadRounds, NO_ROUNDS),
                   (BadView, [None, True, 5, (), [(0, 5)], ((1, 8),), ((0, True),), ((0, 5), (2, 8)), deep_view(50000),
                              ((0, 5), (1, 8), (3, 1))]), (BadLooks, NO_LOOKS))


class Orders(Case):
    def check(self, many, weaving):
        looks = weaving.count(0) // 2
        found, course = hold(many, weaving), course_for(many, weaving)
        self.assertEqual((found is None), (course is not None))
        if found is not None:
            self.assertIs(is_hold(many, weaving, found), True)
        else:
            self.assertEqual(len(course), many * looks)
            told = plain_looks_in(many, course, looks)
            self.assertEqual({hand: [look for _, look in told[hand]] for hand in told}, plain_looks(many, weaving))
        return found is not None

    def test_example(self):
        self.assertEqual(hold(2, WHOLE), (2, 1))
        self.assertIsNone(course_for(2, WHOLE))
        self.assertIs(is_hold(2, WHOLE, (2, 1)), True)

    def test_all_whole_weavings(self):
        for many, looks in ((1, 1), (1, 4), (2, 1), (2, 2), (2, 3), (3, 1), (4, 1)):
            every = list(wholes(many, looks))
            held = [weaving for weaving in every if self.check(many, weaving)]
            self.assertTrue(looks > 1 or not held)
            for weaving in every[::7]:
                plain = plain_holds(many, weaving)
                for at in range(-1, len(weaving) + 1):
                    for hand in range(-1, many + 1):
                        self.assertIs(is_hold(many, weaving, (at, hand)), (at, hand) in plain)
                self.assertEqual(bool(plain), weaving in held)
            # Which looks come by courses at all, by trying all of them.
            if fubini(many) ** (many * looks) < 5000:
                come = {repr({hand: [look for _, look in told[hand]] for hand in told}) for told in (
                    plain_looks_in(many, course, looks) for course in plain_courses(tuple(range(many)), many * looks))}
                free = {repr(plain_looks(many, weaving)) for weaving in every if weaving not in held}
                self.assertEqual(come, free)

    def test_weavings_by_chance(self):
        chance = random.Random(2)
        found = []
        for _ in range(1500):
            many = chance.choice([2, 3, 3, 4])
            weaving = some_whole(chance, many, chance.randint(2, 40 // many))
            held = self.check(many, weaving)
            if len(weaving) < 30:
                plain = plain_holds(many, weaving)
                self.assertEqual(held, bool(plain))
                for thing in itertools.product(range(len(weaving)), range(many)):
                    self.assertIs(is_hold(many, weaving, thing), thing in plain)
            found.append(held)
        self.assertTrue(100 < sum(found) < 1400)

    def test_weavings_without_holds_come(self):
        # Weavings made of courses have no hold, so that many of each size are met.
        chance = random.Random(3)
        for _ in range(150):
            many = chance.choice([2, 3, 4])
            looks = chance.randint(1, 40 // many)
            few = chance.sample(plain_blocks(tuple(range(many))), chance.choice([2, 3]))
            weaving = plain_weaving(many, [chance.choice(few) for _ in range(many * looks)], looks)
            self.assertIs(is_whole(many, weaving), True)
            self.assertIs(self.check(many, weaving), False)

    def test_by_position_and_by_name(self):
        self.same(course_for, "many weaving", 2, (0, 1, 1, 0))
        self.same(hold, "many weaving", 2, WHOLE)
        self.same(is_hold, "many weaving thing", 2, WHOLE, (2, 1))

    def test_any_value(self):
        for weaving in (WHOLE, (0, 1, 1, 0), (0, 1, 2, 0, 0, 0, 1, 1, 1, 2, 2, 2)):
            many = max(weaving) + 1
            plain = plain_holds(many, weaving)
            let = {kinds(one) for one in plain}
            for thing in ODD:
                found = is_hold(many, weaving, thing)
                self.assertIn(found, (True, False))
                self.assertTrue(not found or kinds(thing) in let)
            for one in plain:
                for other in changes(one):
                    self.assertIs(is_hold(many, weaving, other), kinds(other) in let, kinds(other))
        self.assertIs(is_hold(2, WHOLE, (2, True)), False)

    def test_wrong_parameters(self):
        for called in (course_for, hold):
            self.wrong(called, [2, WHOLE], (BadMany, NO_MANY), (BadWeaving, NO_WHOLES))
        self.wrong(is_hold, [2, WHOLE, None], (BadMany, NO_MANY), (BadWeaving, NO_WHOLES), (None, []))
        for many, looks in ((1, 41), (2, 21), (3, 14), (4, 11)):
            weaving = tuple(range(many)) * (2 * looks)
            self.assertEqual(self.told(TooMany, course_for, many, weaving).most, 40)
            self.assertIsNone(hold(many, weaving))
        self.assertEqual(len(course_for(4, (0, 1, 2, 3) * 20)), 40)
        self.assertEqual(len(course_for(1, (0,) * 80)), 40)
        self.told(BadWeaving, course_for, 2, (0, 1) * 41)

    def test_long_weavings(self):
        begun = time.monotonic()
        chance = random.Random(4)
        steps = (0, 1, 2, 3) * 2000
        self.assertIsNone(hold(4, steps))
        found = hold(4, some_whole(chance, 4, 1000))
        self.assertIsNotNone(found)
        self.assertLess(time.monotonic() - begun, 60)


class ByLooks(Case):
    def test_what_is_known(self):
        for many, looks in ((1, 1), (1, 6), (2, 1), (2, 2), (2, 3), (3, 1)):
            rounds, told = many * looks, set()
            for course in plain_courses(tuple(range(many)), rounds):
                weaving = plain_weaving(many, course, looks)
                ends = []
                for corner in plain_end(row_of(many), course).items():
                    known = by_looks(lambda hand, known: (hand, known), many, looks, corner)
                    self.assertEqual(known, (corner[0], plain_known(many, weaving, corner[0], looks)))
                    ends.append(known[1])
                told.add(tuple(ends))
            free = {tuple(plain_known(many, weaving, hand, looks) for hand in range(many))
                    for weaving in wholes(many, looks) if not plain_holds(many, weaving)}
            self.assertEqual(told, free)

    def test_parameters(self):
        asked = []

        def answer(hand, known):
            asked.append((hand, known))
            return "told"
        corner = (1, ((1, ((1, 8),)),))
        for found in (by_looks(answer, 2, 1, corner), by_looks(answer=answer, many=2, looks=1, corner=corner)):
            self.assertEqual(found, "told")
        self.assertEqual(asked, [(1, ((1, 8, ((0, 1),)),))] * 2)
        wrong = [None, True, (), 0, [1, ((1, ((1, 8),)),)], (1,), corner + (0,), (0, ((1, ((1, 8),)),)), (1, ((1, 8),)),
                 (True, ((1, ((1, 8),)),)), (1, ((1, ((1, True),)),)), (1, ((1, ((1, 8), (2, 3))), (2, ((2, 3),)))),
                 (2, ((2, ((2, 8),)),)), (1, 8), (1, deep_view(50000)), corner[1]]
        self.wrong(lambda *told: by_looks(answer, *told), [2, 1, corner], (BadMany, NO_MANY), (BadLooks, NO_LOOKS + [4]),
                   (BadCorner, wrong))
        for many, looks in ((1, 7), (2, 4), (3, 3), (4, 2)):
            self.told(BadLooks, by_looks, answer, many, looks, None)
        self.assertEqual(len(asked), 2)


if __name__ == "__main__":
    unittest.main()
