"""[21]: views."""

import itertools
import random
import time
import unittest

from tests.helping import (NO_HAND, NO_NUMBERS, NO_ROUNDS, ODD, Case, changes, deep_view, groups, kinds, plain_blocks,
                           plain_courses, plain_end, plain_faces, plain_leaves, plain_parts)
from waitless.errors import BadHand, BadMoment, BadRounds, BadView
from waitless.views import are_together, is_view, seen, view_then

ROW = ((0, 5), (1, 8), (3, 0))


class Views(Case):
    def test_rows_are_together(self):
        for thing in (((0, 5),), ((0, 5), (1, 5)), ((3, 999999999),), ((0, 1), (1, 2), (2, 3), (3, 4))):
            self.assertIs(are_together(0, thing), True)
            self.assertIs(are_together(rounds=0, thing=thing), True)
            self.assertIs(are_together(1, thing), False)

    def test_all_small_faces(self):
        for row, rounds in ((ROW[:1], 0), (ROW[:1], 3), (ROW[:2], 0), (ROW[:2], 1), (ROW[:2], 2), (ROW[:2], 3),
                            (ROW, 1), (ROW, 2), (((0, 1), (1, 1), (2, 1), (3, 1)), 1)):
            faces = plain_faces(row, rounds)
            for face in faces:
                self.assertIs(are_together(rounds, face), True)
            corners = sorted({corner for face in faces for corner in face})
            for hand, view in corners:
                self.assertIs(is_view(hand, rounds, view), True)
                for other in range(4):
                    if other != hand and 0 < rounds < 3:
                        self.assertIs(is_view(other, rounds, view), ((other, view),) in faces)
            # Any views set side by side are together just if they are a face.
            for size in (2, 3):
                sides = [corners] * size if len(corners) ** size < 40000 else []
                for face in itertools.product(*sides):
                    if [hand for hand, _ in face] == sorted({hand for hand, _ in face}):
                        self.assertIs(are_together(rounds, face), face in faces)

    def test_pairs_by_chance(self):
        chance = random.Random(3)
        row = ((0, 1), (1, 2), (2, 3), (3, 4))
        blocks = plain_blocks((0, 1, 2, 3))
        found = []
        for _ in range(1500):
            first = [chance.choice(blocks), chance.choice(blocks)]
            second = [chance.choice([first[0], first[0], chance.choice(blocks)]), chance.choice(blocks)]
            one, other = plain_end(row, first), plain_end(row, second)
            hands = chance.sample(range(4), 2)
            face = tuple(sorted([(hands[0], one[hands[0]]), (hands[1], other[hands[1]])]))
            plain = self.plain_together(2, face)
            self.assertIs(are_together(2, face), plain)
            found.append(plain)
        self.assertTrue(200 < sum(found) < 1300)

    def plain_together(self, rounds, thing):
        """Whether some course of the hands seen, from the values seen, ends so."""
        leaves = sorted(plain_leaves(rounds, thing))
        if len({hand for hand, _ in leaves}) < len(leaves):
            return False
        hands = tuple(hand for hand, _ in leaves)
        if not {hand for hand, _ in thing} <= set(hands):
            return False
        # Round by round, from the last one back, blocks are tried that give the views.
        return self.comes(tuple(leaves), rounds, dict(thing))

    def comes(self, row, rounds, wanted):
        if rounds == 0:
            return set(wanted.items()) <= set(row)
        hands = tuple(hand for hand, _ in row)
        for blocks in plain_blocks(hands):
            ahead = {}
            right = True
            for hand, view in wanted.items():
                sees = {other for block in blocks[:[hand in one for one in blocks].index(True) + 1] for other in block}
                right = right and {other for other, _ in view} == sees
                for other, before in view:
                    right = right and ahead.setdefault(other, before) == before
            if right and self.comes(row, rounds - 1, ahead):
                return True
        return False

    def test_changed_views(self):
        for row, course in ((ROW[:2], (((0,), (1,)), ((0, 1),))), (ROW, (((3,), (0, 1)),)), (ROW[:1], (((0,),),)),
                            (ROW[:2], ())):
            rounds = len(course)
            face = tuple(plain_end(row, course).items())
            for other in changes(face):
                let = self.plain_judge(rounds, other)
                self.assertIs(are_together(rounds, other), let, kinds(other))
            for hand, view in face:
                for other in changes(view):
                    self.assertIs(is_view(hand, rounds, other), self.plain_judge(rounds, ((hand, other),)))

    def plain_judge(self, rounds, thing):
        return self.plain_built(rounds, thing) and self.plain_together(rounds, thing)

    def plain_built(self, rounds, thing):
        if type(thing) is not tuple or not thing or not all(type(pair) is tuple and len(pair) == 2 for pair in thing):
            return False
        hands = [hand for hand, _ in thing]
        if not all(type(hand) is int and 0 <= hand < 4 for hand in hands) or hands != sorted(set(hands)):
            return False
        if rounds == 0:
            return all(type(value) is int and 0 <= value < 10 ** 9 for _, value in thing)
        return all(self.plain_built(rounds - 1, inner) for _, inner in thing)

    def test_odd_values(self):
        for thing in ODD:
            for rounds in range(7):
                built = self.plain_built(rounds, thing)
                self.assertIs(are_together(rounds, thing), built and self.plain_together(rounds, thing))
                for hand in (0, 3):
                    found = is_view(hand, rounds, thing)
                    self.assertIs(found, self.plain_judge(rounds, ((hand, thing),)))

    def test_wrong_parameters(self):
        self.wrong(are_together, [0, ROW], (BadRounds, NO_ROUNDS), (None, []))
        self.wrong(is_view, [0, 0, 5], (BadHand, NO_HAND), (BadRounds, NO_ROUNDS), (None, []))
        no_views = [None, True, (), 5, [[0, 5]], ((1, 5),), ((0, True),), ((0, 5), (0, 5)), ((0, ((0, 5),)),),
                    deep_view(50000)]
        self.wrong(seen, [0, 1, ((0, 5),)], (BadHand, NO_HAND), (BadRounds, NO_ROUNDS), (BadView, no_views))
        self.wrong(view_then, [0, 1, ((0, 5),), 0], (BadHand, NO_HAND), (BadRounds, NO_ROUNDS), (BadView, no_views),
                   (BadMoment, NO_NUMBERS + [-1, 2]))
        self.told(BadMoment, view_then, 0, 0, 5, 1)
        self.told(BadView, seen, 1, 1, ((0, 5),))
        self.told(BadView, seen, 0, 0, True)

    def test_seen_and_view_then(self):
        for row, rounds in ((ROW[:1], 2), (ROW[:2], 0), (ROW[:2], 3), (ROW, 2), (((0, 1), (1, 1), (2, 1), (3, 1)), 1)):
            for course in plain_courses(tuple(hand for hand, _ in row), rounds):
                then = [plain_end(row, course[:moment]) for moment in range(rounds + 1)]
                for hand, view in then[-1].items():
                    plain = tuple(sorted(plain_leaves(rounds, ((hand, view),))))
                    self.assertEqual(seen(hand, rounds, view), plain)
                    for moment in range(rounds + 1):
                        self.assertEqual(view_then(hand, rounds, view, moment), then[moment][hand])
        view = plain_end(ROW, (((0,), (1, 3)),))[1]
        self.assertEqual(self.same(seen, "hand rounds view", 1, 1, view), ROW)
        self.assertEqual(self.same(view_then, "hand rounds view moment", 1, 1, view, 0), 8)

    def test_six_rounds(self):
        chance = random.Random(6)
        begun = time.monotonic()
        for hands in groups((0, 1, 2, 3)):
            row = tuple((hand, 999999990 + hand) for hand in hands)
            blocks = plain_blocks(hands)
            for course in ([(hands,)] * 6, [chance.choice(blocks) for _ in range(6)]):
                views = plain_end(row, course)
                face = tuple(views.items())
                self.assertIs(are_together(6, face), True)
                self.assertIs(are_together(5, face), False)
                for hand, view in face:
                    self.assertEqual(seen(hand, 6, view), tuple(sorted(plain_leaves(6, ((hand, view),)))))
                    self.assertEqual(view_then(hand, 6, view, 6), view)
                    self.assertEqual(view_then(hand, 6, view, 1), plain_end(row, course[:1])[hand])
                for part in plain_parts(face):
                    self.assertIs(are_together(6, part), True)
        deepest = ((0, True),)
        for _ in range(6):
            deepest = ((0, deepest),)
        self.assertIs(are_together(6, deepest), False)
        # Each view of the last round may be as large as can be, and wrong at one leaf alone.
        row = tuple((hand, 7) for hand in range(4))
        view = plain_end(row, [((0, 1, 2, 3),)] * 6)[0]
        for leaf in (8, True, None, (7,)):
            self.assertIs(is_view(3, 6, self.with_last_leaf(view, leaf)), False)
        self.assertLess(time.monotonic() - begun, 60)

    def with_last_leaf(self, view, leaf):
        if type(view) is int:
            return leaf
        return view[:-1] + ((view[-1][0], self.with_last_leaf(view[-1][1], leaf)),)


if __name__ == "__main__":
    unittest.main()
