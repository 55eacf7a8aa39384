"""[10]: rows, and what holds everywhere ([3], [4])."""

import itertools
import unittest

from tests.helping import NO_HAND, NO_HANDS, NO_ROWS, Case, ODD, plain_parts
from waitless.errors import BadHand, BadHands, BadRow
from waitless.rows import hands_of, is_part, is_row, part, parts, value_of

ROWS = [((0, 0),), ((3, 999999999),), ((0, 5), (1, 5)), ((1, 2), (3, 1)), ((0, 3), (1, 2), (2, 1), (3, 0)), ((0, 1),)]


class Rows(Case):
    def test_is_row(self):
        for row in ROWS:
            self.assertIs(is_row(row), True)
            self.assertIs(is_row(thing=row), True)
        for thing in NO_ROWS:
            self.assertIs(is_row(thing), False)
        for thing in ODD:
            if is_row(thing):
                self.assertTrue(all(type(hand) is int and type(value) is int for hand, value in thing))
        self.assertIs(is_row(((0, 1), (2, 10 ** 9 - 1))), True)
        self.assertIs(is_row(((0, 1), (2, 10 ** 9))), False)

    def test_all_small_rows(self):
        items = [-1, 0, 1, 3, 4, True]
        for size in range(4):
            for hands in itertools.product(items, repeat=size):
                thing = tuple((hand, 7) for hand in hands)
                right = size > 0 and True not in [type(hand) is bool for hand in hands] and all(
                    0 <= hand <= 3 for hand in hands) and list(hands) == sorted(set(hands))
                self.assertIs(is_row(thing), right)

    def test_hands_and_values(self):
        for row in ROWS:
            self.assertEqual(self.same(hands_of, "row", row), tuple(hand for hand, _ in row))
            for hand, value in row:
                self.assertEqual(self.same(value_of, "row hand", row, hand), value)
        self.wrong(hands_of, [ROWS[0]], (BadRow, NO_ROWS))
        self.wrong(value_of, [((0, 5), (2, 6)), 0], (BadRow, NO_ROWS), (BadHand, NO_HAND + [1, 3]))

    def test_parts(self):
        self.assertEqual(parts(((0, 1), (2, 5), (3, 0))), [
            ((0, 1),), ((2, 5),), ((3, 0),), ((0, 1), (2, 5)), ((0, 1), (3, 0)), ((2, 5), (3, 0)),
            ((0, 1), (2, 5), (3, 0))])
        for row in ROWS:
            found = self.same(parts, "row", row)
            self.assertIsInstance(found, list)
            self.assertEqual(found, sorted(plain_parts(row), key=lambda one: (len(one), one)))
            found.append("changed")
            self.assertNotIn("changed", parts(row))
        self.wrong(parts, [ROWS[0]], (BadRow, NO_ROWS))

    def test_part(self):
        for row in ROWS:
            for one in plain_parts(row):
                self.assertEqual(self.same(part, "row hands", row, hands_of(one)), one)
        self.wrong(part, [((0, 5), (2, 6)), (0,)], (BadRow, NO_ROWS), (BadHands, NO_HANDS + [(1,), (0, 1), (0, 2, 3)]))

    def test_is_part(self):
        rows = [row for full in ROWS for row in plain_parts(full)]
        for one in rows:
            for other in rows:
                self.assertIs(self.same(is_part, "one other", one, other), set(one) <= set(other))
        self.wrong(is_part, [((0, 5),), ((0, 5), (2, 6))], (BadRow, NO_ROWS), (BadRow, NO_ROWS))


if __name__ == "__main__":
    unittest.main()
