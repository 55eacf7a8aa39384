"""[82]: hands that put and look, what they know, and when they answer."""

import itertools
import random
import time

from tests.helping import NO_NUMBERS, ODD, Case, changes, kinds
from waitless.errors import (BadCount, BadHand, BadKnown, BadMany, BadOther, BadSaying, BadValues, BadWeaving)
from waitless.rules import Acting, is_known, knew, weaving_to

NO_MANY = NO_NUMBERS + [0, 7, -1, 10 ** 30]
NO_VALUES = [None, True, 0, [], [1], (), (True,), (1, None), (-1,), (10 ** 9,), ("1",), (1.0,), ((1,),), (1,) * 7, {1: 1}, "1"]


def never(hand, known):
    return None


class PlainActing:
    """The same, by putting copies of all that is known into a memory."""

    def __init__(self, values, rule=never):
        self.values, self.rule = values, rule
        self.memory = [[] for _ in values]
        self.looks = [[] for _ in values]
        self.last = [[(hand, value, ())] for hand, value in enumerate(values)]
        self.answers, self.asked = {}, []

    def step(self, hand):
        if len(self.memory[hand]) == len(self.looks[hand]):
            self.memory[hand].append(tuple(self.looks[hand]))
            return "put"
        if hand in self.answers:
            return "end"
        look = tuple(len(puts) for puts in self.memory)
        looks = self.looks[hand] + [look]
        known = [(hand, self.values[hand], tuple(looks))]
        known += [(other, self.values[other], puts[-1]) for other, puts in enumerate(self.memory) if puts and other != hand]
        self.asked.append((hand, tuple(sorted(known))))
        told = self.rule(*self.asked[-1])
        if told is not None and (isinstance(told, bool) or not isinstance(told, int) or not 0 <= told < 10 ** 9):
            raise BadSaying(hand)
        self.looks[hand], self.last[hand] = looks, known
        if told is not None:
            self.answers[hand] = told
        return "look"

    def known(self, hand):
        return tuple(sorted(self.last[hand]))


def some_rule(number):
    """A rule that answers now and then, by what is known."""
    def rule(hand, known):
        told = sum(map(ord, kinds((number, hand, known))))
        return told if told % 3 == 0 else None
    return rule


class Rules(Case):
    def test_by_hand(self):
        acting = Acting(values=(5, 8), rule=never)
        self.assertEqual(acting.known(0), ((0, 5, ()),))
        self.assertEqual([acting.step(hand) for hand in (0, 1, 0, 1)], ["put", "put", "look", "look"])
        self.assertEqual(acting.known(hand=0), ((0, 5, ((1, 1),)), (1, 8, ())))
        self.assertEqual([acting.step(hand=hand) for hand in (1, 1, 0, 0)], ["put", "look", "put", "look"])
        self.assertEqual(acting.known(1), ((0, 5, ()), (1, 8, ((1, 1), (1, 2)))))
        self.assertEqual(acting.known(0), ((0, 5, ((1, 1), (2, 2))), (1, 8, ((1, 1),))))
        self.assertEqual(acting.answers(), {})
        self.assertIsNone(acting.led(weaving=()))
        self.assertEqual(knew(2, 0, acting.known(0), 1, 1), ((0, 5, ()), (1, 8, ((1, 1),))))

    def test_an_answer_ends_with_one_put_more(self):
        acting = Acting((5, 8), lambda hand, known: 7 if len(known) == 2 else None)
        self.assertEqual([acting.step(hand) for hand in (0, 0, 1, 1)], ["put", "look", "put", "look"])
        self.assertEqual(acting.answers(), {1: 7})
        self.assertEqual([acting.step(1) for _ in range(4)], ["put", "end", "end", "end"])
        self.assertEqual([acting.step(0) for _ in range(5)], ["put", "look", "put", "end", "end"])
        self.assertEqual(acting.known(0), ((0, 5, ((1, 0), (2, 2))), (1, 8, ((1, 1),))))
        self.assertEqual(list(acting.answers().items()), [(0, 7), (1, 7)])

    def test_against_a_plain_memory(self):
        chance = random.Random(821)
        for number in range(400):
            many = chance.randint(1, 6)
            values = tuple(chance.randint(0, 3) for _ in range(many))
            rule = chance.choice([never, some_rule(number), lambda hand, known: 3, some_rule(number)])
            asked = []
            acting = Acting(values, lambda hand, known: asked.append((hand, known)) or rule(hand, known))
            plain = PlainActing(values, rule)
            for _ in range(chance.randint(0, 40)):
                hand = chance.randrange(many)
                self.assertEqual(acting.step(hand), plain.step(hand))
                self.assertEqual(kinds(asked), kinds(plain.asked))
            self.assertEqual(kinds(acting.answers()), kinds(dict(sorted(plain.answers.items()))))
            for hand in range(many):
                self.assertEqual(kinds(acting.known(hand)), kinds(plain.known(hand)))
                self.assertIs(is_known(many, hand, acting.known(hand)), True)

    def test_weavings_are_steps_one_after_another(self):
        chance = random.Random(822)
        for number in range(60):
            weaving = tuple(chance.randrange(3) for _ in range(20))
            one, other = Acting((1, 2, 3), some_rule(number)), Acting((1, 2, 3), some_rule(number))
            one.led(weaving)
            for hand in weaving:
                other.step(hand)
            self.assertEqual([one.known(hand) for hand in range(3)], [other.known(hand) for hand in range(3)])
            self.assertEqual(one.answers(), other.answers())

    def test_a_bad_saying_does_nothing(self):
        for saying in (True, False, -1, 10 ** 9, "1", 1.0, (), [1], {}):
            told = {"say": saying}
            acting = Acting((5, 8), lambda hand, known: told["say"] if hand == 1 else None)
            acting.led((0, 0, 1))
            before = [acting.known(hand) for hand in (0, 1)]
            for _ in range(2):
                self.assertEqual(self.told(BadSaying, acting.step, 1).hand, 1)
                self.assertEqual(self.told(BadSaying, acting.led, (1,)).hand, 1)
                self.assertEqual(([acting.known(hand) for hand in (0, 1)], acting.answers()), (before, {}))
            # What was led ahead of it is done.
            self.assertEqual(self.told(BadSaying, acting.led, (0, 1, 0)).hand, 1)
            told["say"] = 4
            self.assertEqual([acting.step(0), acting.step(1), acting.step(1), acting.step(1)], ["look", "look", "put", "end"])
            self.assertEqual(acting.answers(), {1: 4})
            self.assertEqual(acting.known(1)[1], (1, 8, ((2, 1),)))

    def test_what_rule_raises_does_nothing(self):
        left = [1]

        def rule(hand, known):
            if left:
                left.pop()
                raise KeyError("own")
            return None
        acting = Acting((5,), rule)
        acting.step(0)
        self.assertRaises(KeyError, acting.step, 0)
        self.assertEqual((acting.known(0), acting.step(0), acting.known(0)), (((0, 5, ()),), "look", ((0, 5, ((1,),)),)))

    def test_a_wrong_weaving_does_nothing(self):
        acting = Acting((5, 8), never)
        for weaving in (None, 0, [0], (0, 2), (0, True), (0, -1), "0", (0, "0"), {0: 1}, (0.0,)):
            self.told(BadWeaving, acting.led, weaving)
        self.assertEqual(acting.step(0), "put")

    def test_all_that_can_be_known_by_two_hands(self):
        reached = {}
        for length in range(8):
            for weaving in itertools.product((0, 1), repeat=length):
                plain = PlainActing((4, 4))
                for hand in weaving:
                    plain.step(hand)
                for hand in (0, 1):
                    reached[hand, plain.known(hand)] = True
        looks = list(itertools.product(range(3), repeat=2))
        some = [told for size in range(3) for told in itertools.product(looks, repeat=size)]
        few = [told for size in range(2) for told in itertools.product(looks, repeat=size)]
        count = 0
        for hand in (0, 1):
            for own in some:
                for other in [None] + few:
                    known = [(hand, 4, own)] + ([(1 - hand, 4, other)] if other is not None else [])
                    known = tuple(sorted(known))
                    self.assertIs(is_known(2, hand, known), (hand, known) in reached, known)
                    count += (hand, known) in reached
        self.assertGreater(count, 20)

    def test_all_that_can_be_known_by_three_hands(self):
        reached = {}
        for weaving in itertools.product(range(3), repeat=8):
            plain = PlainActing((4, 4, 4))
            for hand in weaving:
                plain.step(hand)
                reached[hand, plain.known(hand)] = True
        looks = list(itertools.product(range(3), repeat=3))
        one = [()] + [(look,) for look in looks]
        for own in one:
            for first in [None] + one:
                for second in [None] + one:
                    known = [(1, 4, own)] + [(hand, 4, told) for hand, told in ((0, first), (2, second)) if told is not None]
                    known = tuple(sorted(known))
                    right = (1, known) in reached or known == ((1, 4, ()),)
                    self.assertIs(is_known(3, 1, known), right, known)

    def test_known_is_judged(self):
        acting = Acting((5, 8, 5), never)
        acting.led((0, 1, 0, 1, 1, 2, 1, 0, 2, 0))
        for hand in range(3):
            known = acting.known(hand)
            self.assertIs(is_known(3, hand, known), True)
            for other in changes(known):
                if not is_known(3, hand, other):
                    continue
                # Only values may be changed, and what nobody else has heard of.
                plain = PlainActing([{one: value for one, value, _ in other}.get(one, 0) for one in range(3)])
                for step in weaving_to(3, hand, other):
                    plain.step(step)
                self.assertEqual(kinds(plain.known(hand)), kinds(other))
        for thing in ODD:
            self.assertIs(is_known(2, 0, thing), False)
        for wrong in (((0, 5, ()), (1, 8, ())), ((0, 5, ((1, 0),)), (1, 8, ())), ((0, 5, ((1, 1),)),), ((0, 5, ((2, 0),)),),
                      ((0, 5, ((True, 0),)),), ((0, 5, ((1, 0, 0),)),), ((0, 5, [(1, 0)]),), ((0, True, ((1, 0),)),),
                      ((False, 5, ((1, 0),)),), [(0, 5, ((1, 0),))], ((0, 5, ((1, -1),)),), ((0, 10 ** 9, ((1, 0),)),),
                      ((1, 8, ((1, 1),)),), ((0, 5, ((1, 2), (2, 1))), (1, 8, ())), ((0, 5, ((1, 1),)), (2, 8, ())),
                      ((1, 8, ()), (0, 5, ((1, 1),))), ((0, 5, ((1, 1),)), (1, 8, ()), (1, 8, ())), (), ((0, 5),),
                      ((0, 5, ((1, 2), (2, 2))), (1, 8, ((-1, 1),)))):
            self.assertIs(is_known(2, 0, wrong), False, wrong)
        for right in (((0, 5, ((1, 0),)),), ((0, 5, ((1, 0), (2, 0))),), ((0, 5, ((1, 1),)), (1, 8, ())), ((0, 5, ()),),
                      ((0, 5, ((1, 2), (2, 2))), (1, 8, ((0, 1),)))):
            self.assertIs(self.same(is_known, "many hand thing", 2, 0, right), True, right)

    def test_what_others_knew_and_weavings(self):
        chance = random.Random(823)
        for _ in range(150):
            many = chance.randint(1, 6)
            values = tuple(chance.randint(0, 9) for _ in range(many))
            plain, past = PlainActing(values), [{0: ((hand, value, ()),)} for hand, value in enumerate(values)]
            for _ in range(chance.randint(1, 40)):
                hand = chance.randrange(many)
                plain.step(hand)
                past[hand][len(plain.looks[hand])] = plain.known(hand)
            hand = chance.randrange(many)
            known = plain.known(hand)
            for other, _, looks in known:
                for number in range(len(looks) + 1):
                    self.assertEqual(kinds(knew(many, hand, known, other, number)), kinds(past[other][number]))
                self.told(BadCount, knew, many, hand, known, other, len(looks) + 1)
            weaving = self.same(weaving_to, "many hand known", many, hand, known)
            acting = Acting(values, never)
            acting.led(weaving)
            self.assertEqual(kinds(acting.known(hand)), kinds(known))
        self.assertEqual(self.same(knew, "many hand known other number", 2, 0, ((0, 5, ((1, 0),)),), 0, 0), ((0, 5, ()),))
        self.assertEqual(weaving_to(2, 0, ((0, 5, ()),)), ())

    def test_nothing_is_tied_to_the_inside(self):
        acting = Acting((5, 8), lambda hand, known: 1)
        acting.led((1, 1, 0, 0))
        acting.answers().clear()
        self.assertEqual(list(acting.answers().items()), [(0, 1), (1, 1)])
        other = Acting((5, 8), never)
        self.assertNotEqual(acting, other)
        self.assertEqual(other.answers(), {})

    def test_wrong_parameters(self):
        self.wrong(Acting, [(5, 8), never], (BadValues, NO_VALUES), (BadValues, []))
        acting = Acting((5, 8), never)
        for hand in NO_NUMBERS + [-1, 2, 10 ** 30]:
            self.told(BadHand, acting.step, hand)
            self.told(BadHand, acting.known, hand)
        self.assertEqual(acting.step(1), "put")
        known = ((0, 5, ((1, 1),)), (1, 8, ()))
        no_hand = NO_NUMBERS + [-1, 2, 10 ** 30]
        no_known = [None, True, 0, [], (), [known], known[:1], known[::-1], ((0, 5, ((1, 1),)), (1, 8, ((1, 1),))), acting]
        self.wrong(is_known, [2, 0, known], (BadMany, NO_MANY), (BadHand, no_hand), (BadKnown, []))
        self.wrong(weaving_to, [2, 0, known], (BadMany, NO_MANY), (BadHand, no_hand), (BadKnown, no_known))
        self.wrong(knew, [2, 0, known, 1, 0], (BadMany, NO_MANY), (BadHand, no_hand), (BadKnown, no_known),
                   (BadOther, NO_NUMBERS + [2, -1, (1,)]), (BadCount, NO_NUMBERS + [-1, 1, 10 ** 30]))
        self.told(BadOther, knew, 2, 0, ((0, 5, ((1, 0),)),), 1, 0)
        self.told(BadHand, is_known, 6, 6, known)
        self.assertIs(is_known(6, 5, ((5, 0, ((0, 0, 0, 0, 0, 1),)),)), True)

    def test_long_weavings(self):
        begun = time.monotonic()
        chance = random.Random(824)
        acting = Acting((0, 1, 2, 3, 4, 5), never)
        acting.led(tuple(chance.randrange(6) for _ in range(6000)))
        for hand in range(6):
            known = acting.known(hand)
            self.assertTrue(is_known(6, hand, known))
            other = Acting((0, 1, 2, 3, 4, 5), never)
            other.led(weaving_to(6, hand, known))
            self.assertEqual(other.known(hand), known)
            self.assertEqual(knew(6, hand, known, 0, 3), knew(6, hand, known, 0, 3))
        self.assertLess(time.monotonic() - begun, 60)
