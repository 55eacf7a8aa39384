"""[51]: tables that are found and counted, and refutations."""

import itertools
import random
import time
import unittest

from tests.helping import NO_NUMBERS, NO_TASKS, ODD, Case, kinds, plain_end, plain_facets, plain_parts
from tests.test_tables import EXAMPLE, NO_TASK_ROUNDS, ONLY, WIDE, plain_choices, plain_is_table, some_task
from waitless.errors import BadAnswer, BadRounds, BadTask, NoRefutation, TooMany
from waitless.making import agreement, few, near
from waitless.refuting import is_refutation, refutation, shown_wrong, table, tables_many
from waitless.tasks import Task

# Hand 0 answers 0 or 1 alone, and so does hand 1; both together answer alike, and unlike in the second row.
TORN = Task(2, {((0, 0),): [((0, 0),), ((0, 1),)], ((1, 0),): [((1, 0),), ((1, 1),)], ((1, 1),): [((1, 0),), ((1, 1),)],
                ((0, 0), (1, 0)): [((0, 0), (1, 0)), ((0, 1), (1, 1))],
                ((0, 0), (1, 1)): [((0, 0), (1, 0)), ((0, 1), (1, 1))],
                ((0, 1),): [((0, 0),), ((0, 1),)],
                ((0, 1), (1, 0)): [((0, 0), (1, 0)), ((0, 1), (1, 1))],
                ((0, 1), (1, 1)): [((0, 0), (1, 1)), ((0, 1), (1, 0))]})


def plain_tables(task, rounds):
    """All tables, by trying all numbers."""
    told = plain_choices(task, rounds)
    every = (dict(zip(told, values)) for values in itertools.product(*told.values()))
    return [one for one in every if plain_is_table(task, rounds, one)]


def product_of(task, rounds):
    """In how many ways all choices can be taken."""
    ways = 1
    for values in plain_choices(task, rounds).values():
        ways *= len(values)
    return ways


class Judge:
    """A plain judge of refutations, over the texts of all that may stand in them."""

    def __init__(self, task, rounds):
        told = plain_choices(task, rounds)
        self.let = {kinds(corner): list(values) for corner, values in told.items()}
        self.facets = {kinds(row): {kinds(facet): facet for facet in plain_facets(row, rounds)}
                       for row in task.inputs()}
        self.answers = {kinds(row): [dict(answer) for answer in task.answers(row)] for row in task.inputs()}

    def refutes(self, paper):
        return self.is_paper(paper, self.let)

    def is_paper(self, paper, left):
        if type(paper) is not tuple or len(paper) != 3 or type(paper[0]) is not tuple or type(paper[2]) is not dict:
            return False
        strikes, corner, papers = paper
        left = dict(left)
        for strike in strikes:
            if not self.is_strike(strike, left):
                return False
            key = kinds(strike[0])
            left[key] = [value for value in left[key] if value != strike[1]]
        if kinds(corner) not in left or len(papers) == 1 or {kinds(k) for k in papers} != {
                kinds(value) for value in left[kinds(corner)]}:
            return False
        return all(self.is_paper(papers[value], {**left, kinds(corner): [value]}) for value in papers)

    def is_strike(self, strike, left):
        if type(strike) is not tuple or len(strike) != 4:
            return False
        corner, value, row, facet = strike
        if kinds(corner) not in left or type(value) is not int or value not in left[kinds(corner)]:
            return False
        if kinds(facet) not in self.facets.get(kinds(row), {}) or corner not in facet:
            return False
        return not any(answer[corner[0]] == value
                       and all(answer[one[0]] in left[kinds(one)] for one in facet if one != corner)
                       for answer in self.answers[kinds(row)])


def bool_of(thing):
    """The same with False and True in the place of 0 and 1."""
    if isinstance(thing, tuple):
        return tuple(bool_of(item) for item in thing)
    return bool(thing) if thing in (0, 1) else thing


def float_of(thing):
    """The same with floats in the place of numbers."""
    return tuple(float_of(item) for item in thing) if isinstance(thing, tuple) else float(thing)


def changed_papers(paper, chance):
    """Papers with one change somewhere."""
    strikes, corner, papers = paper
    for at in range(len(strikes)):
        yield (strikes[:at] + strikes[at + 1:], corner, papers)
        yield (strikes[:at] + strikes[at:at + 1] + strikes[at:], corner, papers)
        other = chance.randrange(len(strikes))
        swapped = list(strikes)
        swapped[at], swapped[other] = swapped[other], swapped[at]
        yield (tuple(swapped), corner, papers)
        yield (strikes[:at] + (list(strikes[at]),) + strikes[at + 1:], corner, papers)
        for place in range(4):
            part = strikes[at][place]
            for put in (None, True, False, 0, 1, 2, (), [], "0", 10 ** 30, strikes[other][place], corner, float_of(part),
                        *([part[1:], part[:-1], list(part), bool_of(part)] if isinstance(part, tuple) else [])):
                strike = strikes[at][:place] + (put,) + strikes[at][place + 1:]
                yield (strikes[:at] + (strike,) + strikes[at + 1:], corner, papers)
        for put in (None, (), strikes[at][:3], strikes[at] + (0,), 0):
            yield (strikes[:at] + (put,) + strikes[at + 1:], corner, papers)
        yield (strikes, strikes[at][0], papers)
    for put in (None, True, (), 0, (0, 0), (0, 10 ** 9), list(corner), bool_of(corner), float_of(corner)):
        yield (strikes, put, papers)
    for put in (None, (), [], 0, {True: paper}, {0: paper}, {0: paper, 1: paper}, list(papers.items())):
        yield (strikes, corner, put)
    for value in papers:
        yield (strikes, corner, {key: papers[key] for key in papers if key != value})
        yield (strikes, corner, {**papers, value + 100: papers[value]})
        yield (strikes, corner, {float(key) + 0.5 if key == value else key: papers[key] for key in papers})
        yield (strikes, corner, {float(key): papers[key] for key in papers})
        yield (strikes, corner, {str(key) if key == value else key: papers[key] for key in papers})
        yield (strikes, corner, {bool(key) if key == value and key < 2 else key: papers[key] for key in papers})
        yield (strikes, corner, {**papers, value: ((), corner, {})})
        yield (strikes, corner, {**papers, value: list(papers[value])})
        for other in papers:
            yield (strikes, corner, {**papers, value: papers[other]})
        for changed in itertools.islice(changed_papers(papers[value], chance), 40):
            yield (strikes, corner, {**papers, value: changed})
    yield (list(strikes), corner, papers)
    yield paper[:2]
    yield paper + (0,)
    yield list(paper)


class Refuting(Case):
    def test_example(self):
        self.assertIsNone(table(EXAMPLE, 0))
        self.assertEqual(table(EXAMPLE, 1), ONLY)
        self.assertEqual((tables_many(EXAMPLE, 0), tables_many(EXAMPLE, 1)), (0, 1))
        self.assertIsNone(refutation(EXAMPLE, 1))
        # By hand: hand 0 alone answers 0, so that no answer of both goes with 3, and none with 2.
        both, zero, one = ((0, 5), (1, 7)), (0, 5), (1, 7)
        paper = (((one, 3, both, both), (one, 2, both, both)), one, {})
        self.assertIs(is_refutation(EXAMPLE, 0, paper), True)
        self.assertIs(is_refutation(EXAMPLE, 1, paper), False)
        self.assertIs(is_refutation(EXAMPLE, 0, (((zero, 0, both, both),), zero, {})), True)
        self.assertEqual(shown_wrong(EXAMPLE, 0, paper, lambda corner: {zero: 0, one: 3}[corner]),
                         (both, (), ((0, 0), (1, 3))))

    def test_ways_are_tried_where_strikes_are_not_enough(self):
        self.assertEqual(tables_many(TORN, 0), 0)
        paper = refutation(TORN, 0)
        self.assertEqual(len(paper[2]), 2)
        self.assertIs(is_refutation(TORN, 0, paper), True)
        by_hand = ((), (0, 0), {
            first: tuple([(((1, 0), 1 - first, ((0, 0), (1, 0)), ((0, 0), (1, 0))),
                           ((1, 1), 1 - first, ((0, 0), (1, 1)), ((0, 0), (1, 1))),
                           ((0, 1), 1 - first, ((0, 1), (1, 0)), ((0, 1), (1, 0))),
                           ((0, 1), first, ((0, 1), (1, 1)), ((0, 1), (1, 1)))), (0, 1), {}])
            for first in (0, 1)})
        self.assertIs(is_refutation(TORN, 0, by_hand), True)
        self.assertIs(is_refutation(TORN, 0, by_hand[2][0]), False)
        judge, chance = Judge(TORN, 0), random.Random(12)
        for one in (paper, by_hand):
            for changed in changed_papers(one, chance):
                self.assertIs(is_refutation(TORN, 0, changed), judge.refutes(changed), changed)
        # No paper is tried for a value that is the only one left.
        alone = refutation(EXAMPLE, 0)
        self.assertIs(is_refutation(EXAMPLE, 0, ((), (0, 5), {0: alone})), False)
        for numbers in itertools.product((0, 1), repeat=4):
            told = dict(zip([(0, 0), (0, 1), (1, 0), (1, 1)], numbers))
            for one in (paper, by_hand):
                row, course, answers = shown_wrong(TORN, 0, one, told.get)
                self.assertEqual(answers, tuple((corner[0], told[corner]) for corner in row))
                self.assertNotIn(answers, TORN.answers(row))
                self.assertEqual(course, ())

    def test_just_one_of_table_and_refutation(self):
        chance = random.Random(11)
        found = {}
        while len(found) < 4 or min(found.values()) < 25:
            task = some_task(chance, chance.randint(1, 3), chance.randint(1, 3), chance.randint(2, 3))
            rounds = chance.randint(0, 2)
            if product_of(task, rounds) > 700 or len(task.inputs()[-1]) > 2 and rounds == 2:
                continue
            every = plain_tables(task, rounds)
            key = (rounds, len(every) > 0) if rounds < 2 else rounds
            found[key] = found.get(key, 0) + 1
            if found[key] > 60:
                continue
            one = self.same(table, "task rounds", task, rounds)
            paper = self.same(refutation, "task rounds", task, rounds)
            self.assertEqual(self.same(tables_many, "task rounds", task, rounds), len(every))
            self.assertIs(one is None, paper is not None)
            self.assertIs(one is None, len(every) == 0)
            if one is not None:
                self.assertIn(one, every)
                self.assertEqual(list(one), sorted(one))
            else:
                self.check_refutation(task, rounds, paper, chance)

    def check_refutation(self, task, rounds, paper, chance):
        judge = Judge(task, rounds)
        self.assertIs(judge.refutes(paper), True)
        self.assertIs(self.same(is_refutation, "task rounds thing", task, rounds, paper), True)
        self.check_keys(paper)
        every = list(itertools.islice(changed_papers(paper, chance), 3000))
        for changed in chance.sample(every, min(200, len(every))):
            self.assertIs(is_refutation(task, rounds, changed), judge.refutes(changed), changed)
        told = plain_choices(task, rounds)
        for at in range(25):
            values = {corner: chance.choice(told[corner] if at % 3 else (0, 1, 2, 3)) for corner in told}
            if at == 0:
                values = {corner: 999999999 for corner in told}
            self.check_shown(task, rounds, paper, values)

    def check_keys(self, paper):
        self.assertEqual(list(paper[2]), sorted(paper[2]))
        for value in paper[2]:
            self.check_keys(paper[2][value])

    def check_shown(self, task, rounds, paper, values):
        row, course, told = shown_wrong(task, rounds, paper, lambda corner: values[corner])
        self.assertIn(row, task.inputs())
        self.assertEqual(len(course), rounds)
        self.assertEqual(told, tuple((hand, values[hand, view]) for hand, view in plain_end(row, course).items()))
        self.assertNotIn(told, task.answers(row))

    def test_refutations_of_odd_values(self):
        for task in (EXAMPLE, TORN):
            paper = refutation(task, 0)
            for thing in ODD + [paper[:2], paper + ((),), [paper], (paper,), ((), None, {}), ((), 5, {}),
                                (paper, paper, paper), ((paper,), paper[1], {}), ((), (0, 5), {0: {}})]:
                self.assertIs(is_refutation(task, 0, thing), False)
                self.assertIs(is_refutation(task, 1, thing), False)
            for other in (1, 2):
                self.assertIs(is_refutation(task, other, paper), False)
        # A paper that goes on with itself: the second time just one value is left, and that is no end.
        endless = ((), (0, 0), {})
        endless[2].update({0: endless, 1: endless})
        self.assertIs(is_refutation(TORN, 0, endless), False)

    def test_deep_papers(self):
        # A paper that asks corner by corner, deeper than functions can call themselves.
        spots = 1500
        inputs = {((0, value),): [((0, 0),), ((0, 1),)] for value in range(spots)}
        task = Task(2, {**inputs, ((1, 0),): [((1, 0),)], ((0, spots), (1, 0)): [((0, 0), (1, 1))],
                        ((0, spots),): [((0, 0),)]})
        end = (((1, 0), 0, ((0, spots), (1, 0)), ((0, spots), (1, 0))),)
        paper = (end, (1, 0), {})
        for value in range(spots):
            paper = ((), (0, value), {0: (end, (1, 0), {}), 1: paper})
        begun = time.monotonic()
        self.assertIs(is_refutation(task, 0, paper), True)
        self.assertEqual(shown_wrong(task, 0, paper, lambda corner: 1 if corner[0] == 0 and corner[1] < spots else 0),
                         (((0, spots), (1, 0)), (), ((0, 0), (1, 0))))
        self.assertIs(is_refutation(task, 0, ((), (0, 0), {0: paper, 1: paper})), False)
        self.assertLess(time.monotonic() - begun, 60)

    def test_answers_that_are_no_numbers(self):
        paper = refutation(EXAMPLE, 0)
        for put in (None, True, False, "0", 0.0, -1, 10 ** 9, (0,), [], {}):
            raised = self.told(BadAnswer, shown_wrong, EXAMPLE, 0, paper, lambda corner: put)
            self.assertIn(raised.corner, [(0, 5), (1, 7)])
            self.assertEqual(self.told(BadAnswer, shown_wrong, EXAMPLE, 0, paper,
                                       lambda corner: put if corner == (1, 7) else 0).corner, (1, 7))
            self.assertEqual(self.told(BadAnswer, shown_wrong, EXAMPLE, 0, paper,
                                       lambda corner: put if corner == (0, 5) else 2).corner, (0, 5))
        # What isn't asked for may be anything.
        self.assertEqual(shown_wrong(EXAMPLE, 0, paper, lambda corner: 7 if corner == (0, 5) else 2)[0][0], (0, 5))

    def test_numbers_that_are_no_choices(self):
        # 1 is no answer of hand 0 alone, but beside hand 1 it would be one: hand 0 alone is shown wrong.
        paper = refutation(EXAMPLE, 0)
        row, course, told = self.same(shown_wrong, "task rounds paper answer", EXAMPLE, 0, paper,
                                      lambda corner: {0: 1, 1: 2}[corner[0]])
        self.assertEqual((row, course, told), (((0, 5),), (), ((0, 1),)))
        paper = refutation(agreement(2, (0, 1)), 1)
        for value in (2, 999999999):
            row, course, told = shown_wrong(agreement(2, (0, 1)), 1, paper, lambda corner: value)
            self.assertEqual((len(course), told), (1, tuple((hand, value) for hand, _ in row)))

    def test_wrong_parameters(self):
        rounds = (BadRounds, NO_TASK_ROUNDS)
        for called in (table, tables_many, refutation):
            self.wrong(called, [EXAMPLE, 1], (BadTask, NO_TASKS), rounds)
        self.wrong(is_refutation, [EXAMPLE, 1, None], (BadTask, NO_TASKS), rounds, (None, []))
        paper = refutation(EXAMPLE, 0)
        papers = [None, True, (), {}, [], paper[:2], list(paper), ((),) + paper[1:], (paper[0], paper[1], {0: paper})]
        self.wrong(shown_wrong, [EXAMPLE, 0, paper, lambda corner: 0], (BadTask, NO_TASKS), rounds,
                   (NoRefutation, papers), (BadAnswer, [lambda corner: None, lambda corner: True]))
        self.told(NoRefutation, shown_wrong, EXAMPLE, 1, paper, lambda corner: 0)

    def test_too_many_facets(self):
        for called, told in ((table, ()), (tables_many, ()), (refutation, ()), (is_refutation, (None,)),
                             (shown_wrong, (None, None))):
            self.assertEqual(self.told(TooMany, called, WIDE, 2, *told).most, 6000)
            self.told(BadRounds, called, WIDE, 4, *told)
            self.told(BadTask, called, None, 4, *told)
        self.assertEqual((tables_many(WIDE, 0), tables_many(WIDE, 1)), (1, 1))

    def test_too_many_ways(self):
        # Spots of hand 0 alone with these numbers of answers: 4096 ways are let, one more spot's are not.
        for counts, let in (((4096,), True), ((4097,), False), ((2,) * 12, True), ((2,) * 13, False),
                            ((64, 64), True), ((64, 65), False), ((1,) * 900, True), ((1,) * 50 + (4097,), False)):
            task = Task(1, {((0, value),): [((0, answer),) for answer in range(count)]
                            for value, count in enumerate(counts)})
            for rounds in (0, 3):
                for called in (table, tables_many, refutation):
                    if not let:
                        self.assertEqual(self.told(TooMany, called, task, rounds).most, 4096)
                self.assertIs(is_refutation(task, rounds, None), False)
                if let:
                    many = 1
                    for count in counts:
                        many *= count
                    self.assertEqual(tables_many(task, rounds), many)
                    self.assertEqual(set(table(task, rounds).values()), {0})
                    self.assertIsNone(refutation(task, rounds))
        # 6000 facets come first: their error tells how many may be.
        wide = Task(4, {row: [tuple((hand, value) for hand, _ in row) for value in range(9)] for row in WIDE.inputs()})
        self.assertEqual(self.told(TooMany, table, wide, 2).most, 6000)
        self.assertEqual(self.told(TooMany, table, wide, 1).most, 4096)
        # What is judged and walked along has no such limit.
        self.assertIs(is_refutation(wide, 1, None), False)

    def test_large(self):
        begun = time.monotonic()
        # Chains of pairs: twelve spots choose one of two, and many more are bound.
        table_of = {((hand, value),): [((hand, 0),), ((hand, 1),)] for hand in (0, 1) for value in range(6)}
        for value in range(6):
            for other in range(6):
                table_of[(0, value), (1, other)] = [((0, 0), (1, 0)), ((0, 1), (1, 1))]
        bound = Task(2, table_of)
        self.assertEqual(tables_many(bound, 0), 2)
        table_of[(0, 5), (1, 5)] = [((0, 0), (1, 1)), ((0, 1), (1, 0))]
        torn = Task(2, table_of)
        paper = refutation(torn, 0)
        self.assertIs(is_refutation(torn, 0, paper), True)
        self.assertEqual(tables_many(torn, 0), 0)
        # Nearly 6000 facets.
        count = 214
        single = {row: [row] for value in range(count) for row in plain_parts(((0, 0), (1, value)))}
        task = Task(2, single)
        self.assertEqual(tables_many(task, 3), 1)
        single[(0, 0), (1, 77)] = [((0, 1), (1, 77))]
        task = Task(2, single)
        paper = refutation(task, 3)
        self.assertIs(is_refutation(task, 3, paper), True)
        self.check_shown(task, 3, paper, {corner: 0 for corner in plain_choices(task, 3)})
        self.assertEqual(tables_many(few(3, (0,), 3), 3), 1)
        self.assertEqual(self.told(TooMany, table, near(2, 3), 1).most, 4096)
        self.assertLess(time.monotonic() - begun, 100)


if __name__ == "__main__":
    unittest.main()
