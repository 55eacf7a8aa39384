"""What the papers of choices rest on: whole numbers of vectors."""

import random
import unittest

from waitless.lattices import added, not_dividing, plus, put_down, steps_down, weights_against


def summed(vectors, counts):
    """The sum of so many times each vector."""
    total = {}
    for number, count in counts.items():
        for column, entry in vectors[number].items():
            total[column] = total.get(column, 0) + count * entry
    return {column: entry for column, entry in total.items() if entry}


class Lattices(unittest.TestCase):
    def check(self, vectors, targets):
        found = self.check_steps(vectors, targets, steps_down(vectors))
        # The same vectors, put in one behind the other, from the middle on.
        steps = steps_down(vectors[:len(vectors) // 2])
        for number in range(len(vectors) // 2, len(vectors)):
            steps = added(steps, vectors[number], {number: 1})
        self.assertEqual(self.check_steps(vectors, targets, steps), found)
        return found

    def check_steps(self, vectors, targets, steps):
        before = [dict(vector) for vector in vectors]
        for at, (column, vector, counts) in enumerate(steps):
            self.assertEqual(summed(vectors, counts), vector)
            self.assertTrue(vector[column] != 0 and all(vector.values()))
            for _, other, _ in steps[at + 1:]:
                self.assertNotIn(column, other)
        found = []
        for target in vectors + targets:
            rest, counts, number = put_down(steps, target)
            found.append(rest == {})
            if rest == {}:
                self.assertEqual(summed(vectors, counts), target)
            else:
                modulus, weights = weights_against(steps, rest, number)
                self.assertTrue(modulus > 1)
                weighs = [sum(vector[column] * weights.get(column, 0) for column in vector) % modulus
                          for vector in vectors + [target]]
                self.assertEqual(weighs[:-1], [0] * len(vectors))
                self.assertNotEqual(weighs[-1], 0)
        self.assertEqual(found[:len(vectors)], [True] * len(vectors))
        self.assertEqual(vectors, before)
        return found[len(vectors):]

    def test_by_hand(self):
        self.assertEqual(self.check([{0: 4}, {0: 6}], [{0: 2}, {0: 3}, {0: -8}, {1: 2}, {}]),
                         [True, False, True, False, True])
        self.assertEqual(self.check([{0: 6, 1: 1}, {0: 10, 2: 1}, {0: 15}], [{0: 1}, {0: 15}, {0: 16, 1: 1, 2: 1}]),
                         [False, True, True])
        self.assertEqual(self.check([], [{0: 5}, {}]), [False, True])
        self.assertEqual(self.check([{}, {3: -2}], [{3: 1}, {3: 2}, {3: 2, 4: 6}]), [False, True, False])
        self.assertEqual([not_dividing(number) for number in (1, 2, 3, 6, 12, -60, 2520)], [2, 3, 2, 4, 5, 7, 11])
        self.assertEqual(plus({0: 1, 1: 2}, {1: -1, 2: 3}, 2), {0: 1, 2: 6})

    def test_many(self):
        chance = random.Random(111)
        found = []
        for _ in range(1500):
            columns, most = chance.randint(1, 5), chance.choice((1, 2, 6, 30))
            vectors = [{column: entry for column in range(columns) for entry in [chance.randint(-most, most)] if entry}
                       for _ in range(chance.randint(1, 5))]
            targets = [{column: entry for column in range(columns) for entry in [chance.randint(-most, most)] if entry}
                       for _ in range(3)]
            targets += [summed(vectors, {number: chance.randint(-3, 3) for number in range(len(vectors))})]
            told = self.check(vectors, targets)
            self.assertIs(told[-1], True)
            found += told[:-1]
        self.assertTrue(100 < sum(found) < len(found) - 100)


if __name__ == "__main__":
    unittest.main()
