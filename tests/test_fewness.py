"""[101]: few answers out of some values."""

from tests.helping import NO_NUMBERS, Case, kinds
from waitless.errors import BadMany, BadMost, BadValues, TooMany
from waitless.falls import is_fall, walk_to_fall
from waitless.fewness import few_paper, few_rounds
from waitless.making import few
from waitless.odd import is_odd_paper, odd_paper
from waitless.refuting import table


class Fewness(Case):
    def test_by_hand(self):
        self.assertEqual(self.same(few_rounds, "many values most", 3, 2, 2), 0)
        self.assertIsNone(self.same(few_rounds, "many values most", 3, 3, 2))
        self.assertIsNone(self.same(few_paper, "many values most", 2, 9, 2))
        self.assertEqual(self.same(few_paper, "many values most", 2, 2, 1),
                         (((0, 0), (1, 1)), {(0, 0): 0, (0, 1): 1, (1, 0): 0, (1, 1): 1}))

    def test_all(self):
        for many in range(1, 5):
            for values in range(1, 10):
                for most in range(1, 5):
                    done = most >= many or most >= values
                    self.assertEqual(few_rounds(many, values, most), 0 if done else None)
                    self.assertEqual(few_paper(many, values, most) is None, done)
                    if not done:
                        row, numbers = few_paper(many, values, most)
                        self.assertEqual(row, tuple((hand, hand) for hand in range(most + 1)))
                        self.assertEqual(list(numbers), sorted(numbers))
                        self.check_paper(many, values, most, row, numbers)

    def check_paper(self, many, values, most, row, numbers):
        # The numbers are the same whatever other values there are, so that few of them are enough for a task.
        task = few(many, tuple(range(min(values, 4))), most)
        self.assertTrue(is_odd_paper(task, (row, numbers)))
        if (values + 1) ** many <= 1001:
            self.assertTrue(is_odd_paper(few(many, tuple(range(values)), most), (row, numbers)))

    def test_tables_and_falls(self):
        for many, values, most in ((1, 3, 1), (2, 2, 2), (2, 3, 1), (3, 2, 2), (2, 2, 1), (3, 3, 2), (3, 2, 1)):
            task = few(many, tuple(range(values)), most)
            try:
                self.assertEqual(table(task, 0) is None, few_rounds(many, values, most) is None)
            except TooMany:
                pass
            paper = few_paper(many, values, most)
            if paper is not None:
                self.assertIsNotNone(odd_paper(task, paper[0]))
                for rounds in range(4):
                    for answer in (lambda corner: 0, lambda corner: sum(map(ord, kinds(corner))) % values):
                        fall = walk_to_fall(task, paper, rounds, answer, tuple(hand for hand, _ in paper[0]))
                        self.assertTrue(is_fall(task, rounds, answer, fall))

    def test_nothing_is_tied_to_the_inside(self):
        few_paper(3, 3, 2)[1].clear()
        self.assertEqual(len(few_paper(3, 3, 2)[1]), 9)

    def test_wrong_parameters(self):
        for called in (few_rounds, few_paper):
            self.wrong(called, [3, 3, 2], (BadMany, NO_NUMBERS + [0, 5, -1, 10 ** 30]),
                       (BadValues, NO_NUMBERS + [0, 10, -1, (0, 1), 10 ** 30]), (BadMost, NO_NUMBERS + [0, 5, -1, 10 ** 30]))
