"""[20]: blocks."""

import itertools
import unittest

from tests.helping import NO_HANDS, NO_NUMBERS, Case, fubini, groups, plain_blocks, plain_sights
from waitless.blocks import blocks_from, blocks_many, blocks_of, is_blocks, sights
from waitless.errors import BadBlocks, BadCount, BadHands, BadSights

ALL = groups((0, 1, 2, 3))


class Blocks(Case):
    def test_blocks_of(self):
        self.assertEqual(blocks_of((0, 1)), [((0,), (1,)), ((0, 1),), ((1,), (0,))])
        for hands in ALL:
            found = self.same(blocks_of, "hands", hands)
            self.assertEqual(found, sorted(plain_blocks(hands)))
            found.clear()
            self.assertEqual(len(blocks_of(hands)), {1: 1, 2: 3, 3: 13, 4: 75}[len(hands)])
        self.wrong(blocks_of, [(0,)], (BadHands, NO_HANDS))

    def test_is_blocks(self):
        every = [blocks for hands in ALL for blocks in plain_blocks(hands)]
        for hands in ALL:
            right = plain_blocks(hands)
            for blocks in every:
                self.assertIs(is_blocks(hands, blocks), blocks in right)
            self.judged(lambda thing: is_blocks(hands, thing), right[:20])
            self.judged(lambda thing: is_blocks(hands=hands, thing=thing), right[-3:])
        self.wrong(is_blocks, [(0,), ((0,),)], (BadHands, NO_HANDS), (None, []))

    def judged(self, judge, right):
        # A change may lead to other blocks of the same hands, so that all of them are let.
        hands = tuple(sorted(hand for block in right[0] for hand in block))
        let = {repr(blocks) for blocks in plain_blocks(hands)}
        super().judged(lambda thing: judge(thing) if not judge(thing) or thing in right else repr(thing) not in let,
                       right)

    def test_blocks_many(self):
        self.assertEqual([blocks_many(number) for number in (1, 2, 3, 4)], [1, 3, 13, 75])
        for number in range(1, 21):
            self.assertEqual(self.same(blocks_many, "number", number), fubini(number))
        self.wrong(blocks_many, [3], (BadCount, NO_NUMBERS + [0, -1, 21, 10 ** 30]))

    def test_sights(self):
        for hands in ALL:
            for blocks in plain_blocks(hands):
                found = self.same(sights, "hands blocks", hands, blocks)
                self.assertEqual(list(found), list(hands))
                self.assertEqual(found, {hand: tuple(sorted(seen)) for hand, seen in plain_sights(blocks).items()})
        no_blocks = [None, True, (), ((0,),), ((0,), (1,), (0,)), ((1, 0),), [[0, 1]], ((0,), [1]), ((0, 1), ()),
                     ((0, 1), (2,)), ((False, 1),), ((0,), (True,)), ((0, 1.0),), (0, 1)]
        self.wrong(sights, [(0, 1), ((0, 1),)], (BadHands, NO_HANDS), (BadBlocks, no_blocks))

    def test_blocks_from(self):
        for hands in groups((0, 1, 2)) + [(1, 3)]:
            plain = {tuple(tuple(sorted(plain_sights(blocks)[hand])) for hand in hands): blocks
                     for blocks in plain_blocks(hands)}
            for told in itertools.product([()] + groups(hands), repeat=len(hands)):
                found = self.same(blocks_from, "hands told", hands, dict(zip(hands, told)))
                self.assertEqual(found, plain.get(told))
                sees = [set(one) for one in told]
                heart = all(hand in seen for hand, seen in zip(hands, sees)) and all(
                    one <= other or other <= one for one in sees for other in sees) and all(
                    sees[hands.index(other)] <= seen for seen in sees for other in seen)
                self.assertIs(found is not None, heart)
        hands = (0, 1, 2, 3)
        for blocks in plain_blocks(hands):
            told = sights(hands, blocks)
            self.assertEqual(blocks_from(hands, {hand: told[hand] for hand in (2, 0, 3, 1)}), blocks)
            for hand in hands:
                for other in ((), (0, 1, 2, 3), told[hand][:-1], told[hand][1:]):
                    changed = {**told, hand: other}
                    if changed != told:
                        found = blocks_from(hands, changed)
                        self.assertTrue(found is None or sights(hands, found) == changed)

    def test_wrong_sights(self):
        no_sights = [None, True, (), [(0,), (1,)], {}, {0: (0,)}, {0: (0,), 1: (1,), 2: (2,)}, {0: (0,), 1: [1]},
                     {0: (0,), 1: (1, 1)}, {0: (1, 0), 1: (1,)}, {0: (0, 2), 1: (1,)}, {0: (0,), 1: (True,)},
                     {0: (0,), True: (1,)}, {False: (0,), 1: (1,)}, {0: (0,), 1: 1}, {0: (0,), 1: None},
                     {0: (0,), "1": (1,)}, {0: (0,), 2: (1,)}, {0: (0,), 1: ("1",)}]
        self.wrong(blocks_from, [(0, 1), {0: (0,), 1: (0, 1)}], (BadHands, NO_HANDS), (BadSights, no_sights))


if __name__ == "__main__":
    unittest.main()
