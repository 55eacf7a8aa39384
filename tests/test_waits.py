"""[83]: rules against closed families."""

import itertools
import random
import time

from tests.helping import Case, kinds
from tests.test_families import NO_FAMILIES, plain_groups, some_families
from tests.test_rules import PlainActing, never, some_rule
from waitless.errors import BadFamily, BadSaying, NotClosed
from waitless.families import Family, closed, stops
from waitless.powers import power
from waitless.rules import Acting, is_known
from waitless.waits import carried, home, waiting

OPEN = Family(3, [(0, 1), (1,)])


def closed_families():
    found = {}
    for family in some_families():
        whole = closed(family)
        found[whole.many, whole.sets] = whole
    return list(found.values())


def plain_home(family):
    """The first of the smallest groups that have a hand of each set."""
    return min((len(group), group) for group in plain_groups(family.many)
               if all(set(group) & set(one) for one in family.sets))[1]


def known_at_home(hands, known):
    """What is known of home's hands, told by their indexes."""
    return tuple((hands.index(hand), value, tuple(tuple(look[one] for one in hands) for look in looks))
                 for hand, value, looks in known if hand in hands)


class Waits(Case):
    def test_by_hand(self):
        family = closed(Family(3, [(0, 1), (1, 2)]))
        self.assertEqual(self.same(home, "family", family), (1,))
        self.assertEqual(home(stops(4, 2)), (0, 1, 2))
        rule = waiting(family=family)
        self.assertEqual(rule(1, ((1, 8, ((0, 1, 0),)),)), 8)
        self.assertIsNone(rule(0, ((0, 5, ((1, 0, 0),)),)))
        self.assertEqual(rule(0, ((0, 5, ((1, 1, 0),)), (1, 8, ()))), 8)
        acting = Acting((5, 8, 3), rule)
        acting.led((0, 0, 2, 2, 0, 0))
        self.assertEqual(acting.answers(), {})
        acting.led((1, 0, 0, 2, 2))
        self.assertEqual(acting.answers(), {0: 8, 2: 8})
        acting.step(1)
        self.assertEqual(acting.answers(), {0: 8, 1: 8, 2: 8})

    def test_homes(self):
        for family in closed_families():
            self.assertEqual(home(family), plain_home(family))
            self.assertEqual(len(home(family)), power(family))

    def test_waiting_behind_all_weavings(self):
        chance = random.Random(831)
        for family in closed_families():
            many, hands, rule = family.many, home(family), waiting(family)
            for _ in range(6):
                acting = Acting(tuple(range(10, 10 + many)), rule)
                puts = set()
                going = chance.sample(range(many), chance.randint(1, many))
                for _ in range(chance.randint(1, 30)):
                    hand = chance.choice(going)
                    if acting.step(hand) == "put":
                        puts.add(hand)
                    told = acting.answers()
                    self.assertLessEqual(len(set(told.values())), power(family))
                    self.assertLessEqual(set(told.values()), {10 + one for one in hands if one in puts})
                if any(set(one) <= puts for one in family.sets):
                    for hand in going:
                        self.check_next_look(acting, hand)

    def check_next_look(self, acting, hand):
        """hand answers at its next look."""
        for _ in range(2):
            if hand not in acting.answers():
                acting.step(hand)
        self.assertIn(hand, acting.answers())

    def test_waiting_of_three_hands_behind_every_weaving(self):
        for family in (closed(OPEN), stops(3, 1), stops(3, 2), closed(Family(3, [(0, 2), (1, 2)]))):
            rule, hands = waiting(family), plain_home(family)
            for weaving in itertools.product(range(3), repeat=6):
                acting = Acting((7, 8, 9), rule)
                acting.led(weaving)
                for hand, value in acting.answers().items():
                    seen = [one for one, _, _ in acting.known(hand) if one in hands]
                    self.assertEqual(value, 7 + (hand if hand in hands else seen[0]))
                for hand in range(3):
                    if hand not in acting.answers() and weaving.count(hand) > 1:
                        self.assertFalse({one for one, _, _ in acting.known(hand)} & set(hands))

    def test_carried_does_as_rule_at_home(self):
        chance = random.Random(832)
        for number, family in enumerate(closed_families()):
            many, hands = family.many, home(family)
            asked = []
            own = chance.choice([some_rule(number), some_rule(number + 1), lambda hand, known: 4, never])
            rule = carried(family=family, rule=lambda hand, known: asked.append((hand, known)) or own(hand, known))
            values = tuple(chance.randint(0, 9) for _ in range(many))
            acting = Acting(values, rule)
            inner = PlainActing([values[one] for one in hands], own)
            for _ in range(chance.randint(0, 50)):
                hand = chance.randrange(many)
                before = len(asked)
                told = acting.step(hand)
                if hand in hands:
                    self.assertEqual(told, inner.step(hands.index(hand)))
                    # Behind a look of home's own the rule is asked once, of what is known of home alone.
                    wanted = [(hands.index(hand), known_at_home(hands, acting.known(hand)))] if told == "look" else []
                    self.assertEqual(kinds(asked[before:]), kinds(wanted))
                for one, known in asked[before:]:
                    self.assertTrue(is_known(len(hands), one, known))
                    self.assertGreater(len([looks for other, _, looks in known if other == one][0]), 0)
            said = {one: inner.answers[at] for at, one in enumerate(hands) if at in inner.answers}
            for hand, value in acting.answers().items():
                if hand in hands:
                    self.assertEqual(value, said[hand])
                else:
                    self.assertIn(value, said.values())
            self.assertEqual({hand for hand in acting.answers() if hand in hands}, set(said))
            for at, one in enumerate(hands):
                self.assertEqual(kinds(known_at_home(hands, acting.known(one))), kinds(inner.known(at)))
            ended = [one for one in hands if acting.step(one) == "end"]
            if ended:
                for hand in range(many):
                    if hand not in hands:
                        self.check_next_look(acting, hand)

    def test_carried_waits_for_the_least_that_has_answered(self):
        family = stops(4, 1)
        self.assertEqual(home(family), (0, 1))
        acting = Acting((1, 2, 3, 4), carried(family, lambda hand, known: 10 + hand if hand == 1 or len(known) > 1 else None))
        acting.led((0, 0, 1, 1))
        self.assertEqual(acting.answers(), {1: 11})
        # What hand 1 has answered is known only by its last put.
        acting.led((2, 2))
        self.assertEqual(acting.answers(), {1: 11})
        acting.led((1, 2, 2))
        self.assertEqual(acting.answers(), {1: 11, 2: 11})
        acting.led((0, 0, 0, 3, 3))
        self.assertEqual(acting.answers(), {0: 10, 1: 11, 2: 11, 3: 10})

    def test_bad_sayings_are_told_of_the_hand(self):
        family = stops(3, 1)
        acting = Acting((1, 2, 3), carried(family, lambda hand, known: "1" if hand == 1 else None))
        acting.led((0, 0, 1, 2, 2))
        self.assertEqual(self.told(BadSaying, acting.step, 1).hand, 1)
        self.assertEqual(acting.answers(), {})

    def test_families_are_kept(self):
        sets = [(0, 1), (0, 2), (1, 2), (0, 1, 2)]
        family = Family(3, sets)
        rule = waiting(family)
        sets.clear()
        acting = Acting((1, 2, 3), rule)
        acting.led((2, 2, 0, 2, 2))
        self.assertEqual(acting.answers(), {2: 1})

    def test_wrong_parameters(self):
        for called in (home, waiting):
            self.wrong(called, [closed(OPEN)], (BadFamily, NO_FAMILIES))
            self.told(NotClosed, called, OPEN)
        self.wrong(carried, [closed(OPEN), never], (BadFamily, NO_FAMILIES), (BadFamily, []))
        self.told(NotClosed, carried, OPEN, never)

    def test_six_hands(self):
        begun = time.monotonic()
        chance = random.Random(833)
        for most in range(6):
            family = stops(6, most)
            acting = Acting((0, 1, 2, 3, 4, 5), waiting(family))
            other = Acting((0, 1, 2, 3, 4, 5), carried(family, lambda hand, known: hand if len(known[0][2]) > 3 else None))
            weaving = tuple(chance.randrange(6) for _ in range(600))
            acting.led(weaving)
            other.led(weaving)
            self.assertLessEqual(len(set(acting.answers().values())), most + 1)
            self.assertLessEqual(len(set(other.answers().values())), most + 1)
            self.assertEqual((len(acting.answers()), len(other.answers())), (6, 6))
        self.assertLess(time.monotonic() - begun, 60)
