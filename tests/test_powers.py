"""[81]: picks, chains, leads and the power of families."""

import itertools
import random
import time

from tests.helping import ODD, TASK, Case, kinds
from tests.test_families import NO_FAMILIES, families, plain_groups, some_families
from waitless.errors import BadCount, BadFamily, BadPicks
from waitless.families import Family, closed, dual, meeting, stops
from waitless.powers import chain, is_lead, is_picks, lead, picks, power

TWO = Family(2, [(0,), (1,)])
SOME = Family(3, [(0, 1), (1,), (0, 2), (0, 1, 2)])
NO_COUNTS = [None, True, False, "1", 1.0, (1,), [1], {}, -1, 7, 10 ** 30]


def all_picks(family):
    """All picks of family."""
    for hands in itertools.product(*family.sets):
        yield dict(zip(family.sets, hands))


def plain_chains(family, told):
    """All chains of the picks told, by going on in all ways."""
    waiting = [[one] for one in family.sets]
    while waiting:
        sets = waiting.pop()
        yield sets
        left = set(sets[-1]) - {told[sets[-1]]}
        waiting.extend(sets + [one] for one in family.sets if set(one) <= left)


def plain_longest(family, told):
    return max(len(sets) for sets in plain_chains(family, told))


def all_leads(family):
    """All dicts from groups to sets within them."""
    groups = [()] + plain_groups(family.many)
    ways = [[None] + [one for one in family.sets if set(one) <= set(group)] for group in groups]
    for told in itertools.product(*ways):
        yield {group: one for group, one in zip(groups, told) if one is not None}


def plain_leads(told, group, number):
    if number == 0:
        return True
    return group in told and all(
        plain_leads(told, tuple(hand for hand in told[group] if hand != gone), number - 1) for gone in told[group])


def dict_changes(thing, keys, values):
    """Dicts with one key or value exchanged, left out or put in."""
    for key in thing:
        yield {one: thing[one] for one in thing if one != key}
        for value in values:
            yield {**thing, key: value}
        for other in keys:
            yield {(other if one == key else one): thing[one] for one in thing}
    for key in keys:
        for value in values:
            yield {**thing, key: value}


class Powers(Case):
    def test_by_hand(self):
        self.assertEqual(self.same(power, "family", TWO), 1)
        self.assertEqual(self.same(picks, "family", TWO), {(0,): 0, (1,): 1})
        self.assertEqual(self.same(chain, "family choice", TWO, {(0,): 0, (1,): 1}), [(0,)])
        self.assertEqual(power(closed(TWO)), 2)
        self.assertEqual(chain(closed(TWO), {(0,): 0, (1,): 1, (0, 1): 1}), [(0, 1), (0,)])
        self.assertIs(self.same(is_picks, "family number thing", closed(TWO), 1, {(0,): 0, (1,): 1, (0, 1): 1}), False)
        self.assertIs(is_picks(closed(TWO), 2, {(0,): 0, (1,): 1, (0, 1): 1}), True)
        told = {(0, 1): (0, 1), (0,): (0,), (1,): (1,)}
        self.assertEqual([self.same(is_lead, "family number thing", closed(TWO), number, told) for number in range(4)],
                         [True, True, True, False])
        self.assertEqual([is_lead(TWO, number, {(0, 1): (0,)}) for number in range(3)], [True, True, False])
        self.assertEqual([is_lead(TWO, number, {}) for number in range(2)], [True, False])
        self.same(lead, "family", SOME)
        for many in range(1, 7):
            for most in range(many):
                self.assertEqual(power(stops(many, most)), most + 1)

    def test_all_picks_of_small_families(self):
        for family in some_families():
            if family.many > 3:
                continue
            longest = {kinds(told): plain_longest(family, told) for told in all_picks(family)}
            least = min(longest.values())
            self.assertEqual(power(family), least)
            self.assertEqual(longest[kinds(picks(family))], least)
            for told in all_picks(family):
                found = chain(family, told)
                self.assertEqual(len(found), longest[kinds(told)])
                self.assertIn(found, list(plain_chains(family, told)))
                for number in range(7):
                    self.assertIs(is_picks(family, number, told), longest[kinds(told)] <= number)

    def test_all_leads_of_small_families(self):
        chance = random.Random(811)
        for family in [one for many in (1, 2) for one in families(many)] + chance.sample(list(families(3)), 12):
            best, whole = 0, tuple(range(family.many))
            every = list(all_leads(family)) if len(family.sets) < 5 else [lead(family), {}]
            for told in every if len(every) < 400 else chance.sample(every, 400):
                for number in range(4):
                    right = plain_leads(told, whole, number)
                    self.assertIs(is_lead(family, number, told), right)
                    if right:
                        best = max(best, number)
            self.assertLessEqual(best, power(family))
            self.assertTrue(is_lead(family, power(family), lead(family)))
            if len(every) < 400:
                self.assertEqual(best, power(family))

    def test_hearts(self):
        for family in some_families():
            number = power(family)
            told, led = picks(family), lead(family)
            self.assertEqual(list(told), list(family.sets))
            self.assertEqual(list(led), sorted(led))
            self.assertEqual([is_picks(family, count, told) for count in range(7)], [count >= number for count in range(7)])
            self.assertTrue(all(is_lead(family, count, led) for count in range(number + 1)))
            self.assertFalse(any(is_lead(family, count, led) for count in range(number + 1, 7)))
            self.assertEqual(plain_longest(family, told), number)
            fewest = len(meeting(family)[0])
            self.assertLessEqual(number, fewest)
            self.assertEqual(power(dual(family)), min(len(one) for one in family.sets))
            whole = closed(family)
            self.assertEqual(power(whole), fewest)
            hands = range(family.many)
            for size in range(family.many):
                left = [tuple(hand for hand in hands if hand not in gone) for gone in itertools.combinations(hands, size)]
                self.assertIs(all(whole.holds(group) for group in left), size <= power(whole) - 1)

    def test_judged_picks(self):
        number = power(SOME)
        right = [told for told in all_picks(SOME) if plain_longest(SOME, told) <= number]
        let = {kinds(sorted(told.items())) for told in right}
        self.assertEqual(number, 2)
        self.assertLess(len(right), len(list(all_picks(SOME))))
        odd = [()] + [(2,), (1, 0), (0, 1, 2, 3), (True,), (False, 1), "0", 0, None, (0.0,), ((0,),)]
        for told in all_picks(SOME):
            self.assertIs(is_picks(SOME, number, told), kinds(sorted(told.items())) in let)
            for other in dict_changes(told, odd, [0, 1, 2, True, False, None, 0.0, "0", (0,), 3, -1]):
                wanted = kinds(sorted(other.items(), key=repr)) in {kinds(sorted(one.items(), key=repr)) for one in right}
                self.assertIs(is_picks(SOME, number, other), wanted, other)
        for thing in ODD:
            self.assertIs(is_picks(SOME, 6, thing), False)
        self.assertIs(is_picks(Family(1, [(0,)]), 1, {(0,): 0}), True)
        self.assertIs(is_picks(Family(1, [(0,)]), 0, {(0,): 0}), False)
        self.assertIs(is_picks(Family(1, [(0,)]), 1, {(0,): False}), False)
        self.assertIs(is_picks(Family(1, [(0,)]), 1, {(False,): 0}), False)
        for count in range(7):
            self.assertIs(is_picks(SOME, count, list(right[0].items())), False)

    def test_judged_leads(self):
        told = lead(SOME)
        number = power(SOME)
        odd = [(2,), (1, 0), (0, 1, 2, 3), (True,), (False, 1), "0", 0, None, (0.0,), ((0,),), ()]
        for other in dict_changes(told, odd, [(0, 1), (1,), (0, 2), (2,), (), (True,), None, 0, [1], (1.0,)]):
            kept = all(isinstance(group, tuple) and all(type(hand) is int for hand in group) and
                       group in [()] + plain_groups(3) for group in other)
            kept = kept and all(isinstance(one, tuple) and all(type(hand) is int for hand in one) and one in SOME.sets
                                and set(one) <= set(group) for group, one in other.items())
            for count in (0, 1, number, number + 1):
                self.assertIs(is_lead(SOME, count, other), kept and plain_leads(other, (0, 1, 2), count), other)
        for thing in ODD:
            self.assertIs(is_lead(SOME, 0, thing), isinstance(thing, dict) and len(thing) == 0)
            self.assertIs(is_lead(SOME, 1, thing), False)

    def test_nothing_is_tied_to_the_inside(self):
        for called in (picks, lead):
            called(SOME).clear()
            self.assertGreater(len(called(SOME)), 0)
        told = picks(SOME)
        chain(SOME, told).clear()
        self.assertGreater(len(chain(SOME, told)), 0)

    def test_wrong_parameters(self):
        for called in (power, picks, lead):
            self.wrong(called, [SOME], (BadFamily, NO_FAMILIES))
        no_picks = [None, True, 0, [], (), {}, TASK, {(0, 1): 0}, {**picks(SOME), (2,): 2}, {**picks(SOME), (1,): 0},
                    {**picks(SOME), (1,): True}, list(picks(SOME).items())]
        self.wrong(chain, [SOME, picks(SOME)], (BadFamily, NO_FAMILIES), (BadPicks, no_picks))
        for called in (is_picks, is_lead):
            self.wrong(called, [SOME, 1, {}], (BadFamily, NO_FAMILIES), (BadCount, NO_COUNTS), (BadCount, []))
            for number in (0, 6):
                called(SOME, number, {})

    def test_six_hands(self):
        begun = time.monotonic()
        chance = random.Random(812)
        groups = plain_groups(6)
        every = [Family(6, groups), stops(6, 3)] + [Family(6, chance.sample(groups, size)) for size in (3, 10, 30, 50)]
        for family in every:
            told, led = picks(family), lead(family)
            self.assertTrue(is_picks(family, power(family), told))
            self.assertTrue(is_lead(family, power(family), led))
            self.assertEqual(len(chain(family, told)), power(family))
            worst = {one: one[0] for one in family.sets}
            self.assertEqual(len(chain(family, worst)), plain_longest(family, worst))
        self.assertEqual(power(Family(6, groups)), 6)
        self.assertLess(time.monotonic() - begun, 60)
