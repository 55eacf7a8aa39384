"""[80]: families of sets of hands."""

import itertools
import random
import time
import unittest

from tests.helping import ODD, TASK, Case, kinds
from waitless.errors import BadFamily, BadHands, BadMany, BadMost, BadPair, BadSets
from waitless.families import Family, closed, dual, either, is_closed, least_sets, meeting, meets, stops, within

SOME = Family(3, [(0, 1), (1,), (0, 2)])
NO_FAMILIES = [None, True, 0, (), [(0,)], {}, TASK, Family, (3, [(0,)])]
NO_MANY = [None, True, False, "1", 1.0, (1,), [1], {}, 0, 7, -1, 10 ** 30]
NO_GROUPS = [None, True, 0, [], [0], [0, 1], (1, 0), (0, 0), (0, 3), (-1,), (True,), (False, 1), (0, True), ("0",), ((0,),),
             {0: 1}, "01", (0, 1, 2, 3), (0.0,), (0, None), set(), frozenset()]


def plain_groups(many):
    """All groups of so many hands but ()."""
    return sorted(group for size in range(1, many + 1) for group in itertools.combinations(range(many), size))


def families(many):
    """All families of so many hands."""
    groups = plain_groups(many)
    for size in range(1, len(groups) + 1):
        for sets in itertools.combinations(groups, size):
            yield Family(many, list(sets))


def some_families():
    """All families of up to three hands, and some of more."""
    for many in (1, 2, 3):
        yield from families(many)
    chance = random.Random(101)
    for many in (4, 5, 6):
        groups = plain_groups(many)
        for _ in range(60 if many < 6 else 30):
            yield Family(many, chance.sample(groups, chance.randint(1, min(len(groups), 2 * many))))


def plain_closed(family):
    """All groups with a set within them."""
    return [group for group in plain_groups(family.many) if any(set(one) <= set(group) for one in family.sets)]


def plain_dual(family):
    """All groups that have a hand of each set."""
    return [group for group in plain_groups(family.many) if all(set(one) & set(group) for one in family.sets)]


class Families(Case):
    def test_by_hand(self):
        self.assertEqual((SOME.many, SOME.sets), (3, ((0, 1), (0, 2), (1,))))
        self.assertEqual(self.same(within, "family hands", SOME, (0, 1)), [(0, 1), (1,)])
        self.assertEqual(within(SOME, ()), [])
        self.assertEqual(self.same(least_sets, "family", SOME), [(0, 2), (1,)])
        self.assertEqual(closed(family=SOME), Family(3, [(1,), (0, 1), (0, 2), (1, 2), (0, 1, 2)]))
        self.assertEqual((is_closed(family=SOME), is_closed(closed(SOME))), (False, True))
        self.assertEqual(stops(many=3, most=1), Family(3, [(0, 1), (0, 2), (1, 2), (0, 1, 2)]))
        self.assertEqual(stops(2, 0), Family(2, [(0, 1)]))
        self.assertEqual(either(one=SOME, other=Family(3, [(1,), (2,)])), Family(3, [(0, 1), (1,), (0, 2), (2,)]))
        self.assertEqual([self.same(meets, "family hands", SOME, hands) for hands in ((), (1,), (0, 1), (1, 2), (0, 2))],
                         [False, False, True, True, False])
        self.assertEqual(dual(family=SOME), Family(3, [(0, 1), (1, 2), (0, 1, 2)]))
        self.assertEqual(self.same(meeting, "family", SOME), [(0, 1), (1, 2)])
        self.assertEqual([SOME.holds(hands=hands) for hands in ((1,), (0,), (), (0, 1), (0, 1, 2))],
                         [True, False, False, True, False])

    def test_all_small_families(self):
        for family in some_families():
            many, groups = family.many, plain_groups(family.many)
            self.assertEqual(list(closed(family).sets), plain_closed(family))
            self.assertIs(is_closed(family), list(family.sets) == plain_closed(family))
            self.assertIs(is_closed(closed(family)), True)
            self.assertEqual(list(dual(family).sets), plain_dual(family))
            self.assertEqual((closed(family).many, dual(family).many), (many, many))
            self.assertEqual(least_sets(family), [one for one in family.sets
                                                  if not any(set(two) < set(one) for two in family.sets)])
            fewest = min(len(group) for group in plain_dual(family))
            self.assertEqual(meeting(family), [group for group in plain_dual(family) if len(group) == fewest])
            for group in groups[:20] + [()]:
                self.assertEqual(within(family, group), [one for one in family.sets if set(one) <= set(group)])
                self.assertIs(meets(family, group), all(set(one) & set(group) for one in family.sets))
                self.assertIs(family.holds(group), group in family.sets)

    def test_duals(self):
        chance = random.Random(102)
        every = list(some_families())
        for family in every:
            self.assertEqual(dual(dual(family)), closed(family))
            whole = closed(family)
            for group in plain_groups(family.many) + [()]:
                others = tuple(hand for hand in range(family.many) if hand not in group)
                self.assertIs(meets(whole, group), not whole.holds(others))
        for _ in range(300):
            one, other = chance.choice(every), chance.choice(every)
            if one.many != other.many:
                self.told(BadPair, either, one, other)
                continue
            found = either(one, other)
            self.assertEqual(found.sets, tuple(sorted(set(one.sets) | set(other.sets))))
            self.assertEqual(dual(found).sets, tuple(sorted(set(dual(one).sets) & set(dual(other).sets))))

    def test_stops(self):
        for many in range(1, 7):
            for most in range(many):
                found = stops(many, most)
                self.assertEqual(list(found.sets), [group for group in plain_groups(many) if len(group) >= many - most])
                self.assertIs(is_closed(found), True)
                self.assertEqual(dual(found), stops(many, many - 1 - most))
                self.assertEqual({len(group) for group in meeting(found)}, {most + 1})

    def test_equality_and_sequence(self):
        sets = [(0, 2), (1,), (0, 1)]
        for some in itertools.permutations(sets):
            self.assertEqual(Family(3, list(some)), SOME)
            self.assertEqual(Family(3, some).sets, SOME.sets)
        self.assertEqual(sets, [(0, 2), (1,), (0, 1)])
        for other in (Family(4, sets), Family(3, sets[1:]), Family(3, sets + [(2,)]), TASK, (3, SOME.sets), SOME.sets, None,
                      0, True):
            self.assertFalse(SOME == other)
            self.assertTrue(SOME != other)
        for other in ODD:
            self.assertIs(SOME == other, False)

    def test_nothing_is_tied_to_the_inside(self):
        sets = [(0, 1), (1,)]
        family = Family(many=3, sets=sets)
        sets.append((2,))
        within(family, (0, 1)).clear()
        least_sets(family).clear()
        meeting(family).clear()
        self.assertEqual((family.sets, type(family.sets)), (((0, 1), (1,)), tuple))
        self.assertEqual((within(family, (0, 1)), meeting(family)), ([(0, 1), (1,)], [(1,)]))
        self.assertEqual(kinds(closed(family).sets), kinds(((0, 1), (0, 1, 2), (1,), (1, 2))))
        self.assertIsNot(closed(closed(family)), closed(family))

    def test_wrong_parameters(self):
        no_sets = [None, True, 0, {}, "0", [], (), [()], [(0,), ()], [(0,), (0,)], [(1, 0)], [(0, 0)], [(0, 3)], [(-1,)],
                   [(True,)], [(0,), (False,)], [[0]], [(0,), None], (0,), [0], [("0",)], [(0.0,)], {(0,)}, {(0,): 1},
                   [(0, 1, 2, 3)], [((0,),)]]
        self.wrong(Family, [3, [(0, 1), (1,)]], (BadMany, NO_MANY), (BadSets, no_sets))
        self.wrong(stops, [3, 1], (BadMany, NO_MANY), (BadMost, [None, True, False, "1", 1.0, -1, 3, 10 ** 30]))
        for called in (within, meets):
            self.wrong(called, [SOME, (0, 1)], (BadFamily, NO_FAMILIES), (BadHands, NO_GROUPS))
        for called in (least_sets, closed, is_closed, dual, meeting):
            self.wrong(called, [SOME], (BadFamily, NO_FAMILIES))
        self.wrong(either, [SOME, SOME], (BadFamily, NO_FAMILIES), (BadFamily, NO_FAMILIES))
        for hands in NO_GROUPS:
            self.told(BadHands, SOME.holds, hands)
        self.assertEqual(Family(1, ((0,),)).sets, ((0,),))
        self.told(BadSets, Family, 1, [(1,)])
        self.told(BadSets, Family, 6, [(6,)])
        self.assertEqual(Family(6, [(5,)]).sets, ((5,),))

    def test_six_hands(self):
        begun = time.monotonic()
        whole = Family(6, plain_groups(6))
        self.assertEqual(len(whole.sets), 63)
        self.assertEqual(dual(whole), Family(6, [(0, 1, 2, 3, 4, 5)]))
        self.assertEqual(dual(dual(whole)), whole)
        chance = random.Random(103)
        for _ in range(60):
            family = closed(Family(6, chance.sample(plain_groups(6), chance.randint(1, 6))))
            self.assertEqual(dual(dual(family)), family)
            self.assertEqual(len(family.sets) + len(dual(family).sets), 64)
        self.assertLess(time.monotonic() - begun, 60)


if __name__ == "__main__":
    unittest.main()
