"""[74]: weights, papers of choices, and papers of all of them."""

import itertools
import math
import random
import time
import unittest

from tests.helping import NO_ROWS, NO_TASKS, ODD, PUT_IN, Case, kinds, plain_parts
from tests.test_odd import AGREE, simplex
from waitless.errors import BadChoice, BadHands, BadInput, BadPaper, BadTask, TooMany
from waitless.making import few
from waitless.odd import odd_paper
from waitless.papers import all_rounds, choice_paper, from_odd, is_all_rounds
from waitless.refuting import table
from waitless.tasks import Task
from waitless.weights import is_choice_paper, lone_choices

ROW = ((0, 0), (1, 1), (2, 2))
SOME = few(3, (0, 1, 2), 2)
EVERY = few(3, (0, 1, 2), 3)
NO_CHOICES = [None, True, 0, (), (0,), [0, 1, 2], (0, 1), (0, 1, 2, 3), (0, 1, 1), (1, 1, 2), (False, 1, 2), (0, True, 2),
              (0, 1.0, 2), ("0", 1, 2), ((0, 1), 2), {0: 1}, (None, 1, 2), ((0,), 1, 2)]


def part_of(row, hands):
    """The part of a row with these hands."""
    return tuple(pair for pair in row if pair[0] in hands)


def plain_sides(row):
    """The three sides."""
    low, middle, high = [hand for hand, _ in row]
    return [(low, middle), (middle, high), (low, high)]


def plain_ties(task, row):
    """All ties."""
    found = set()
    for side in plain_sides(row):
        found |= set(task.answers(part_of(row, side))) | {part_of(answer, side) for answer in task.answers(row)}
    return sorted(found)


def plain_choices(task, row):
    """All choices."""
    return sorted(itertools.product(*[[answer[0][1] for answer in task.answers((pair,))] for pair in row]))


def ends_of(row, choice, side):
    """The first and the last place of the ways of a side."""
    told = {hand: value for (hand, _), value in zip(row, choice)}
    return [(hand, told[hand]) for hand in side]


def plain_judge(task, row, choice, paper):
    """Whether paper is one of choice, strictly by what it is made of."""
    if type(paper) is not tuple or len(paper) != 3 or type(paper[0]) is not str:
        return False
    return {"apart": plain_apart, "weights": plain_weights, "filled": plain_filled}.get(
        paper[0], lambda *told: False)(task, row, choice, *paper[1:])


def are_places(thing):
    return all(type(place) is tuple and len(place) == 2 and all(type(one) is int for one in place) for place in thing)


def plain_apart(task, row, choice, side, reach):
    if kinds(side) not in [kinds(one) for one in plain_sides(row)] or type(reach) is not tuple or not are_places(reach):
        return False
    places = {place for part in plain_parts(row) for answer in task.answers(part) for place in answer}
    if list(reach) != sorted(set(reach)) or not all(place in places and place[0] in side for place in reach):
        return False
    first, last = ends_of(row, choice, side)
    return first in reach and last not in reach and all(
        (one in reach) == (other in reach) for one, other in task.answers(part_of(row, side)))


def plain_weights(task, row, choice, m, weights):
    if type(m) is not int or m < 2 or type(weights) is not dict:
        return False
    if {kinds(key) for key in weights} != {kinds(tie) for tie in plain_ties(task, row)}:
        return False
    if not all(type(weight) is int and 0 <= weight < m for weight in weights.values()):
        return False
    low, middle, high = plain_sides(row)
    if any((weights[part_of(answer, low)] + weights[part_of(answer, middle)] - weights[part_of(answer, high)]) % m
           for answer in task.answers(row)):
        return False
    total = 0
    for side, turned in zip((low, middle, high), (1, 1, -1)):
        first, last = ends_of(row, choice, side)
        # All sums that ways to some place have: states gone on with.
        states, waiting, sums = {(first, 0)}, [(first, 0)], set()
        for place, had in waiting:
            sums |= {had} if place == last else set()
            if len(sums) > 1:
                break
            for tie in task.answers(part_of(row, side)):
                if place in tie:
                    step = weights[tie] if place == tie[0] else -weights[tie]
                    state = (tie[1 - tie.index(place)], (had + step) % m)
                    if state not in states:
                        states.add(state)
                        waiting.append(state)
        if len(sums) != 1:
            return False
        total += turned * sums.pop()
    return total % m != 0


def plain_filled(task, row, choice, ways, counts):
    if type(ways) is not tuple or len(ways) != 3 or type(counts) is not dict:
        return False
    steps = {}
    for side, way in zip(plain_sides(row), ways):
        if type(way) is not tuple or not are_places(way) or [way[0], way[-1]] != ends_of(row, choice, side) if way else True:
            return False
        for one, other in zip(way, way[1:]):
            tie = tuple(sorted([one, other]))
            if tie not in task.answers(part_of(row, side)):
                return False
            steps[tie] = steps.get(tie, 0) + (1 if one == tie[0] else -1)
    answers = {kinds(answer) for answer in task.answers(row)}
    if not all(kinds(key) in answers and type(count) is int and count for key, count in counts.items()):
        return False
    for answer, count in counts.items():
        for side in plain_sides(row):
            steps[part_of(answer, side)] = steps.get(part_of(answer, side), 0) - count
    return not any(steps.values())


def changed_papers(paper):
    """Papers with one change somewhere."""
    word, middle, last = paper
    for put in ("apart", "weights", "filled", "", None, 0):
        yield (put, middle, last)
    for put in PUT_IN + ((0, 1), (1, 2), (0, 2), (1, 0), [0, 1], 2, 3, 4, 6, 10 ** 30, 2.0, -2):
        yield (word, put, last)
        yield (word, middle, put)
    if word == "apart":
        for at in range(len(last)):
            yield (word, middle, last[:at] + last[at + 1:])
            yield (word, middle, last[:at + 1] + last[at:])
            for put in ((9, 9), (0, 0), (1, 1), (2, 2), (0, True), (False, 0), [0, 0], (0, 0, 0), None):
                yield (word, middle, last[:at] + (put,) + last[at + 1:])
                yield (word, middle, last[:at] + (put,) + last[at:])
        yield (word, middle, last[::-1])
        yield (word, middle, list(last))
        yield (word, tuple(bool(hand) if hand < 2 else hand for hand in middle), last)
    else:
        for key in last:
            yield (word, middle, {one: last[one] for one in last if one != key})
            for put in (last[key] + 1, last[key] - 1, -last[key], 0, True, False, None, "1", 1.0, 10 ** 30):
                yield (word, middle, {**last, key: put})
            for put in (key[:1], key + ((3, 0),), ((0, True),) + key[1:], key[::-1], (key,), None, ((0, 9),) + key[1:]):
                yield (word, middle, {put if one == key else one: last[one] for one in last})
                yield (word, middle, {**last, put: 1})
    if word == "weights":
        for times in (2, 3, 5):
            yield (word, middle * times, {tie: weight * times for tie, weight in last.items()})
            yield (word, middle, {tie: weight * times % middle for tie, weight in last.items()})
            yield (word, middle * times, last)
        yield (word, middle, {tie: 0 for tie in last})
    if word == "filled":
        for at, way in enumerate(middle):
            longer = way[:1] + way[1:2] + way
            for put in (way[:-1], way[1:], way[::-1], way + way[-1:], longer, (way[0], way[-1]), list(way), (), None,
                        way[:1], tuple(list(place) for place in way), way + way[-2:][::-1] + way[-1:],
                        tuple((hand, bool(value) if value < 2 else value) for hand, value in way),
                        tuple((bool(hand) if hand < 2 else hand, value) for hand, value in way),
                        tuple((float(hand), float(value)) for hand, value in way)):
                yield (word, middle[:at] + (put,) + middle[at + 1:], last)
        yield (word, middle[:2], last)
        yield (word, middle[::-1], last)
        yield (word, list(middle), last)
        yield (word, middle, {answer: 2 * count for answer, count in last.items()})
    yield paper[:2]
    yield paper + (0,)
    yield list(paper)


class Papers(Case):
    def test_by_hand(self):
        # Three answers alone, all ties, at most two unlike: the ring of the three is not filled.
        self.assertEqual(self.same(lone_choices, "task row", SOME, ROW), [(0, 1, 2)])
        paper = self.same(choice_paper, "task row choice", SOME, ROW, (0, 1, 2))
        self.assertEqual(paper[:2], ("weights", 2))
        self.assertIs(self.same(is_choice_paper, "task row choice thing", SOME, ROW, (0, 1, 2), paper), True)
        # All answers are let: one triangle fills it.
        ways = (((0, 0), (1, 1)), ((1, 1), (2, 2)), ((0, 0), (2, 2)))
        self.assertIs(is_choice_paper(EVERY, ROW, (0, 1, 2), ("filled", ways, {ROW: 1})), True)
        self.assertIs(is_choice_paper(SOME, ROW, (0, 1, 2), ("filled", ways, {ROW: 1})), False)
        self.assertEqual(choice_paper(EVERY, ROW, (0, 1, 2))[0], "filled")
        self.assertIsNone(self.same(all_rounds, "task row", EVERY, ROW))
        self.assertEqual(list(all_rounds(SOME, ROW)), [(0, 1, 2)])
        # Hands 1 and 2 both keep what they have, hand 0 too, but no answer of 0 and 1 is let with it.
        apart = Task(3, {**{part: [part] for part in plain_parts(ROW)}, ROW[:2]: [((0, 5), (1, 5))]})
        self.assertEqual(choice_paper(apart, ROW, (0, 1, 2)), ("apart", (0, 1), ((0, 0),)))
        for reach, let in ((((0, 0),), True), (((0, 0), (0, 5), (1, 5)), True), (((0, 0), (0, 5)), False),
                           (((0, 0), (1, 1)), False), ((), False), (((0, 0), (2, 2)), False), (((0, 0), (0, 9)), False)):
            self.assertIs(is_choice_paper(apart, ROW, (0, 1, 2), ("apart", (0, 1), reach)), let)
        self.assertIs(is_choice_paper(apart, ROW, (0, 1, 2), ("apart", (1, 2), ((1, 1),))), False)
        for side in ((1, 0), (0, 3), (0, 0), (3, 3), (0, 1.0), (False, True), (0,), (0, 1, 2), ((0, 1),), [0, 1], None):
            for reach in (((0, 0),), ((1, 1),)):
                self.assertIs(is_choice_paper(apart, ROW, (0, 1, 2), ("apart", side, reach)), False)

    def test_rings_gone_round_some_times(self):
        for times in (2, 3, 4, 5, 6, 7, 12, 33):
            task = round_and_round(times)
            self.assertEqual(len(task.answers(ROW)), 9 * times)
            paper = choice_paper(task, ROW, (0, 0, 0))
            self.assertIs(plain_judge(task, ROW, (0, 0, 0), paper), True)
            self.assertIs(is_choice_paper(task, ROW, (0, 0, 0), paper), True)
            self.assertEqual(all_rounds(task, ROW), {(0, 0, 0): paper})
            # So many rounds are nothing, so that weights tell one from nothing only modulo a common divisor.
            self.assertEqual(paper[0], "weights")
            self.assertTrue(math.gcd(paper[1], times) > 1)
            self.check_shifted(task, paper)
            for changed in changed_papers(paper) if times < 4 else []:
                self.assertIs(is_choice_paper(task, ROW, (0, 0, 0), changed), plain_judge(task, ROW, (0, 0, 0), changed))

    def check_shifted(self, task, paper):
        """Weights may be shifted by what places are taken to weigh; half of the sums come out otherwise."""
        chance = random.Random(paper[1])
        ties = plain_ties(task, ROW)
        for _ in range(12):
            shift = {place: chance.randrange(paper[1]) for tie in ties for place in tie}
            told = {tie: (paper[2][tie] + shift[tie[1]] - shift[tie[0]]) % paper[1] for tie in ties}
            self.assertIs(is_choice_paper(task, ROW, (0, 0, 0), ("weights", paper[1], told)), True)
            none = {tie: (shift[tie[1]] - shift[tie[0]]) % paper[1] for tie in ties}
            self.assertIs(is_choice_paper(task, ROW, (0, 0, 0), ("weights", paper[1], none)), False)

    def test_each_choice_has_one_paper(self):
        chance = random.Random(82)
        found = {}
        while len(found) < 3 or min(found.values()) < 12:
            task = simplex(chance, 3, chance.randint(2, 3), 8)
            row = task.inputs()[-1]
            self.assertEqual(lone_choices(task, row), plain_choices(task, row))
            choice = chance.choice(lone_choices(task, row))
            paper = self.same(choice_paper, "task row choice", task, row, choice)
            found[paper[0]] = found.get(paper[0], 0) + 1
            if found[paper[0]] > 25:
                continue
            self.assertIs(plain_judge(task, row, choice, paper), True)
            self.assertIs(self.same(is_choice_paper, "task row choice thing", task, row, choice, paper), True)
            if paper[0] != "apart":
                self.assertEqual(list(paper[2]), sorted(paper[2]))
            for changed in changed_papers(paper):
                self.assertIs(is_choice_paper(task, row, choice, changed), plain_judge(task, row, choice, changed), changed)
            for other in lone_choices(task, row):
                self.assertIs(is_choice_paper(task, row, other, paper), plain_judge(task, row, other, paper))
            for answer in task.answers(row) if paper[0] == "filled" else []:
                if answer not in paper[2]:
                    self.assertIs(is_choice_paper(task, row, choice, paper[:2] + ({**paper[2], answer: 0},)), False)
            self.check_one_kind(task, row, choice, paper[0], chance)

    def check_one_kind(self, task, row, choice, kind, chance):
        """No paper of another kind: by trying all reaches, weights by two, and small counts."""
        ties = plain_ties(task, row)
        if kind != "weights" and len(ties) <= 9:
            for told in itertools.product((0, 1), repeat=len(ties)):
                self.assertIs(is_choice_paper(task, row, choice, ("weights", 2, dict(zip(ties, told)))), False)
        if kind != "apart":
            for side in plain_sides(row):
                places = sorted({(pair[0], value) for pair in row for value in range(3) if pair[0] in side})
                for _ in range(20):
                    reach = tuple(sorted(chance.sample(places, chance.randint(1, len(places)))))
                    self.assertIs(is_choice_paper(task, row, choice, ("apart", side, reach)), False)
        if kind == "weights":
            ways = [[way for way in short_ways(task, row, choice, side)] for side in plain_sides(row)]
            answers = task.answers(row)[:5]
            for told in itertools.product((-1, 0, 1), repeat=len(answers)):
                counts = {answer: count for answer, count in zip(answers, told) if count}
                for some in itertools.product(*[one[:2] for one in ways]):
                    self.assertIs(is_choice_paper(task, row, choice, ("filled", some, counts)), False)

    def test_all_rounds(self):
        chance = random.Random(83)
        found = {True: 0, False: 0}
        while min(found.values()) < 30:
            task = simplex(chance, 3, chance.randint(2, 3), 8)
            row = task.inputs()[-1]
            papers = self.same(all_rounds, "task row", task, row)
            kinds_of = {choice: choice_paper(task, row, choice)[0] for choice in lone_choices(task, row)}
            self.assertIs(papers is None, "filled" in kinds_of.values())
            found[papers is None] += 1
            if papers is None:
                self.assertIs(is_all_rounds(task, row, {choice: choice_paper(task, row, choice) for choice in kinds_of}),
                              False)
                continue
            if found[False] > 40:
                continue
            self.assertEqual(list(papers), sorted(kinds_of))
            for choice in papers:
                self.assertIs(plain_judge(task, row, choice, papers[choice]), True)
            self.assertIs(self.same(is_all_rounds, "task row thing", task, row, papers), True)
            self.check_changed_all(task, row, papers)
            for rounds in (0, 1):
                try:
                    self.assertIsNone(table(task, rounds))
                except TooMany:
                    pass

    def check_changed_all(self, task, row, papers):
        for choice in papers:
            left = {one: papers[one] for one in papers if one != choice}
            self.assertIs(is_all_rounds(task, row, left), False)
            for put in (None, True, 0, (), choice[:2], list(choice) and choice + (0,), "x", (0, 0, 99),
                        (float(choice[0]) + 0.5,) + choice[1:], (bool(choice[0]),) + choice[1:]):
                if put not in papers or kinds(put) not in [kinds(one) for one in papers]:
                    self.assertIs(is_all_rounds(task, row, {**left, put: papers[choice]}), False)
                if put not in papers:
                    self.assertIs(is_all_rounds(task, row, {**papers, put: papers[choice]}), False)
            for changed in itertools.islice(changed_papers(papers[choice]), 0, None, 9):
                self.assertIs(is_all_rounds(task, row, {**papers, choice: changed}),
                              plain_judge(task, row, choice, changed) and changed[0] != "filled")

    def test_from_odd(self):
        chance = random.Random(84)
        found = 0
        self.assertEqual(set(from_odd(SOME, odd_paper(SOME, ROW))), {(0, 1, 2)})
        while found < 40:
            task = simplex(chance, 3, chance.randint(2, 3), 8)
            row = task.inputs()[-1]
            try:
                paper = odd_paper(task, row)
            except TooMany:
                continue
            if paper is None:
                continue
            found += 1
            told = self.same(from_odd, "task paper", task, paper)
            self.assertIs(is_all_rounds(task, row, told), True)
            self.assertEqual(list(told), plain_choices(task, row))
            for choice in told:
                apart = [side for side in plain_sides(row) if not short_ways(task, row, choice, side)]
                if apart:
                    reach = plain_reach(task, row, ends_of(row, choice, apart[0])[0], apart[0])
                    self.assertEqual(told[choice], ("apart", apart[0], tuple(sorted(reach))))
                else:
                    self.assertEqual(told[choice], ("weights", 2, {
                        tie: int(paper[1][tie[0]] != paper[1][tie[1]]) for tie in plain_ties(task, row)}))
                    self.assertEqual(list(told[choice][2]), plain_ties(task, row))
            self.assertIsNotNone(all_rounds(task, row))

    def test_judged_of_any_value(self):
        for thing in ODD + [("apart",), ("weights", 2), ("filled", (), {}), ("filled", ((), (), ()), {}), ("apart", (0, 1), 0),
                            ("weights", 2, {}), ("weights", 2, None), ("apart", None, ()), ("filled", None, None)]:
            self.assertIs(is_choice_paper(SOME, ROW, (0, 1, 2), thing), False)
            self.assertIs(is_all_rounds(SOME, ROW, thing), False)
            self.assertIs(is_all_rounds(SOME, ROW, {(0, 1, 2): thing}), False)

    def test_wrong_parameters(self):
        inputs = (BadInput, NO_ROWS + [((0, 3),), ((0, 0), (1, 1), (2, 9)), ((0, 0), (3, 1))])
        for called, told in ((lone_choices, ()), (is_choice_paper, (None, None)), (choice_paper, (None,)),
                             (all_rounds, ()), (is_all_rounds, (None,))):
            self.told(BadHands, called, SOME, ROW[:2], *told)
            self.told(BadHands, called, SOME, ROW[2:], *told)
            self.told(BadHands, called, few(4, (1,), 1), tuple((hand, 1) for hand in range(4)), *told)
        self.wrong(lone_choices, [SOME, ROW], (BadTask, NO_TASKS), inputs)
        self.wrong(all_rounds, [SOME, ROW], (BadTask, NO_TASKS), inputs)
        self.wrong(is_all_rounds, [SOME, ROW, None], (BadTask, NO_TASKS), inputs, (None, []))
        self.wrong(choice_paper, [SOME, ROW, (0, 1, 2)], (BadTask, NO_TASKS), inputs, (BadChoice, NO_CHOICES))
        self.wrong(is_choice_paper, [SOME, ROW, (0, 1, 2), None], (BadTask, NO_TASKS), inputs, (BadChoice, NO_CHOICES),
                   (None, []))
        paper = odd_paper(SOME, ROW)
        self.wrong(from_odd, [SOME, paper], (BadTask, NO_TASKS),
                   (BadPaper, [None, True, (), {}, paper[:1], list(paper), (ROW, {}), (ROW, {**paper[1], (0, 0): 1})]))
        self.told(BadHands, from_odd, AGREE, odd_paper(AGREE, ((0, 0), (1, 1))))

    def test_too_many(self):
        for count, let in ((300, True), (301, False)):
            told = [tuple(enumerate(values)) for values in itertools.product(range(7), repeat=3)][:count]
            task = Task(3, {**{part: [part] for part in plain_parts(ROW)}, ROW: told})
            self.assertIs(is_all_rounds(task, ROW, None), False)
            self.assertEqual(lone_choices(task, ROW), [(0, 1, 2)])
            if let:
                self.assertEqual(choice_paper(task, ROW, (0, 1, 2))[0], "filled")
                self.assertIsNone(all_rounds(task, ROW))
            else:
                self.assertEqual(self.told(TooMany, choice_paper, task, ROW, (0, 1, 2)).most, 300)
                self.assertEqual(self.told(TooMany, all_rounds, task, ROW).most, 300)
                self.told(BadChoice, choice_paper, task, ROW, (0, 1, 3))
            for counts, few_choices in (((64, 1, 1), True), ((65, 1, 1), False), ((4, 4, 4), True), ((5, 13, 1), False)):
                table_of = task.table()
                for hand, many in enumerate(counts):
                    table_of[(ROW[hand],)] = [((hand, value),) for value in range(many)]
                wide = Task(3, table_of)
                if few_choices and let:
                    all_rounds(wide, ROW)
                else:
                    self.assertEqual(self.told(TooMany, all_rounds, wide, ROW).most, 64 if not few_choices else 300)
                self.assertEqual(len(lone_choices(wide, ROW)), counts[0] * counts[1] * counts[2])

    def test_long_lines_and_rings(self):
        begun = time.monotonic()
        # Nearly 300 answers; a ring is filled only if the ways lead round as often as it is left out.
        for size, ring, lone, parts_of in ((42, False, (0, 21, 41), None), (42, True, (0, 14, 28), None),
                                           (42, True, (0, 1, 2), None), (25, False, (24, 0, 12), True),
                                           (20, True, (0, 7, 14), True), (10, False, (9, 9, 0), None)):
            task = line_task(size, ring, lone, parts_of)
            self.assertTrue(len(task.answers(ROW)) <= 300)
            paper = choice_paper(task, ROW, lone)
            self.assertEqual(paper[0], "filled")
            self.assertIs(plain_judge(task, ROW, lone, paper), True)
            self.assertIs(is_choice_paper(task, ROW, lone, paper), True)
            self.assertTrue(max(len(way) for way in paper[1]) < 200)
            self.assertIsNone(all_rounds(task, ROW))
        self.assertLess(time.monotonic() - begun, 60)

    def test_large(self):
        begun = time.monotonic()
        chance = random.Random(85)
        met = {}
        for values, count, dense in ((20, 300, 0.3), (10, 300, 0.6), (8, 200, 0.5), (20, 40, 0.3), (12, 300, 0.25),
                                     (30, 120, 0.15), (6, 30, 0.4)):
            pairs = [{(x, y) for x in range(values) for y in range(values) if chance.random() < dense} for _ in range(3)]
            every = [told for told in itertools.product(range(values), repeat=3)
                     if told[:2] in pairs[0] and told[1:] in pairs[1] and (told[0], told[2]) in pairs[2]]
            table_of = {ROW: [tuple(enumerate(told)) for told in chance.sample(every, min(count, len(every)))]}
            for side, ties in zip(plain_sides(ROW), pairs):
                table_of[part_of(ROW, side)] = [tuple(zip(side, tie)) for tie in sorted(ties)]
            for hand, pair in enumerate(ROW):
                table_of[(pair,)] = [((hand, value),) for value in chance.sample(range(values), 4)]
            task = Task(3, table_of)
            papers = all_rounds(task, ROW)
            for choice in chance.sample(lone_choices(task, ROW), 8):
                paper = choice_paper(task, ROW, choice)
                met[paper[0]] = met.get(paper[0], 0) + 1
                self.assertIs(plain_judge(task, ROW, choice, paper), True)
                self.assertIs(is_choice_paper(task, ROW, choice, paper), True)
            if papers is not None:
                self.assertEqual(len(papers), 64)
                self.assertIs(is_all_rounds(task, ROW, papers), True)
        self.assertTrue({"weights", "filled"} <= set(met))
        self.assertLess(time.monotonic() - begun, 100)


def line_task(size, ring, lone, parts_of=None):
    """A task of answers side by side on a line or a ring, for all parts, or for those of two hands what is told."""
    def apart(x, y):
        return min((x - y) % size, (y - x) % size) if ring else abs(x - y)

    table_of = {ROW: [tuple(enumerate(told)) for told in itertools.product(range(size), repeat=3)
                      if all(apart(x, y) <= 1 for x, y in itertools.combinations(told, 2))]}
    for side in plain_sides(ROW):
        table_of[part_of(ROW, side)] = [tuple(zip(side, told)) for told in itertools.product(range(size), repeat=2)
                                        if parts_of or apart(*told) <= 1]
    for pair, value in zip(ROW, lone):
        table_of[(pair,)] = [((pair[0], value),)]
    return Task(3, table_of)


def plain_reach(task, row, first, side):
    """All places that ways from first come to."""
    found = {first}
    for _ in range(len(task.answers(part_of(row, side))) + 1):
        for tie in task.answers(part_of(row, side)):
            if found & set(tie):
                found |= set(tie)
    return found


def short_ways(task, row, choice, side):
    """The ways of a side with no place twice."""
    first, last = ends_of(row, choice, side)
    found, waiting = [], [(first,)]
    while waiting:
        way = waiting.pop()
        if way[-1] == last:
            found.append(way)
        for tie in task.answers(part_of(row, side)):
            if way[-1] in tie and tie[1 - tie.index(way[-1])] not in way:
                waiting.append(way + (tie[1 - tie.index(way[-1])],))
    return found


def round_and_round(times):
    """A task in which the ring of the three hands is filled only if it is gone round so many times.

    Its answers are a disc whose rim of 3 * times ties lies as many times round the ring: triangles on the rim's ties
    and between them, an inner rim, a triangle over each three ties of that, and a cone over what is left.
    """
    size = 3 * times
    outer = [(at % 3, 0) for at in range(size)]
    inner = [((at + 2) % 3, 1 + at) for at in range(size)]
    cone = (0, size + 1)
    discs = []
    for at in range(size):
        after = (at + 1) % size
        discs.append((outer[at], outer[after], inner[at]))
        discs.append((inner[at], outer[after], inner[after]))
    for at in range(0, size, 3):
        discs.append((inner[at], inner[at + 1], inner[at + 2]))
        discs.append((inner[at], inner[at + 2], cone))
        discs.append((inner[at + 2], inner[(at + 3) % size], cone))
    table_of = {part: [tuple((hand, 0) for hand, _ in part)] for part in plain_parts(ROW)}
    return Task(3, {**table_of, ROW: [tuple(sorted(disc)) for disc in discs]})


if __name__ == "__main__":
    unittest.main()
