"""[70] and [73]: odd papers, and falls that are walked to."""

import itertools
import random
import time
import unittest

from tests.helping import NO_ROUNDS, NO_ROWS, NO_TASKS, ODD, PUT_IN, Case, changes, kinds, plain_blocks, plain_end, \
    plain_parts
from tests.test_pairs import slim_task
from tests.test_refuting import TORN
from tests.test_tables import EXAMPLE
from waitless.choosing import least
from waitless.courses import across
from waitless.errors import BadAnswer, BadInput, BadOrder, BadPaper, BadRounds, BadTask, TooMany
from waitless.falls import is_fall, walk_to_fall
from waitless.making import agreement, few
from waitless.odd import is_odd_paper, odd_paper
from waitless.refuting import table
from waitless.tasks import Task

AGREE = agreement(2, (0, 1))
BOTH = ((0, 0), (1, 1))
PAPER = (BOTH, {(0, 0): 0, (0, 1): 1, (1, 0): 0, (1, 1): 1})


def plain_places(task, row):
    """All places of a row."""
    return sorted({place for part in plain_parts(row) for answer in task.answers(part) for place in answer})


def plain_is_odd(task, row, numbers):
    """Whether a dict from the places to hands of row makes an odd paper."""
    for part in plain_parts(row):
        hands = {hand for hand, _ in part}
        for answer in task.answers(part):
            got = {numbers[place] for place in answer}
            if len(part) < len(row) and not got <= hands or len(part) == len(row) and got == hands:
                return False
    return True


def plain_odd_papers(task, row):
    """All odd papers of a row, by trying all numbers."""
    places = plain_places(task, row)
    hands = [hand for hand, _ in row]
    if len(row) < 2:
        return []
    every = (dict(zip(places, told)) for told in itertools.product(hands, repeat=len(places)))
    return [numbers for numbers in every if plain_is_odd(task, row, numbers)]


def simplex(chance, many, values, most):
    """A task whose inputs are the parts of one row, each with some answers over so many values."""
    table_of = {}
    for row in plain_parts(tuple((hand, 7) for hand in range(many))):
        every = [tuple((hand, value) for (hand, _), value in zip(row, told))
                 for told in itertools.product(range(values), repeat=len(row))]
        table_of[row] = chance.sample(every, chance.randint(1, min(most, len(every))))
    return Task(many, table_of)


class Answers:
    """A function of corners that remembers what it was asked for."""

    def __init__(self, chance, let):
        self.chance, self.let, self.told, self.corners = chance, let, {}, []

    def __call__(self, corner):
        text = kinds(corner)
        if text not in self.told:
            self.corners.append(corner)
            self.told[text] = self.chance.choice(self.let(corner))
        return self.told[text]


def plain_answered(row, course, answer):
    """The row of what is answered."""
    return tuple((hand, answer((hand, view))) for hand, view in plain_end(row, course).items())


def plain_fall(task, paper, rounds, answer, order):
    """The rooms gone into, step by step, and the fall."""
    whole, numbers = paper
    room, last, gone = ((order[0],), (((order[0],),),) * rounds), None, []
    while True:
        part = tuple(pair for pair in whole if pair[0] in room[0])
        gone.append((part, room[1]))
        told = plain_answered(part, room[1], answer)
        if told not in task.answers(part):
            return gone, (part, room[1], told)
        got = {place[0]: numbers[place] for place in told}
        wanted = sorted(order[:len(room[0]) - 1])
        beside = []
        for hand in room[0]:
            others = tuple(one for one in room[0] if one != hand)
            if others and sorted(got[one] for one in others) == wanted:
                following = across(room[0], room[1], hand)
                beside.append((room[0], following) if following is not None else
                              (others, tuple(tuple(block for block in blocks if block != (hand,)) for blocks in room[1])))
        if sorted(got.values()) == sorted(order[:len(room[0])]) and len(room[0]) < len(order):
            late = order[len(room[0])]
            beside.append((tuple(sorted(room[0] + (late,))), tuple(blocks + ((late,),) for blocks in room[1])))
        following = [one for one in beside if one != last]
        assert len(following) == 1 and len(beside) == (1 if last is None else 2)
        room, last = following[0], room


class OddPapers(Case):
    def test_example_by_hand(self):
        self.assertIs(self.same(is_odd_paper, "task thing", AGREE, PAPER), True)
        self.assertEqual(self.same(odd_paper, "task row", AGREE, BOTH), PAPER)
        self.assertIsNone(odd_paper(AGREE, ((0, 0), (1, 0))))
        self.assertIsNone(odd_paper(AGREE, ((0, 0),)))
        self.assertIsNone(odd_paper(EXAMPLE, ((0, 5), (1, 7))))
        odd_paper(AGREE, BOTH)[1].clear()
        self.assertEqual(odd_paper(AGREE, BOTH), PAPER)
        three = ((0, 0), (1, 1), (2, 2))
        paper = odd_paper(few(3, (0, 1, 2), 2), three)
        self.assertEqual(paper, (three, {(hand, value): value for hand in range(3) for value in range(3)}))
        self.assertIsNone(odd_paper(few(3, (0, 1, 2), 3), three))

    def test_exactly_if_some_numbers_make_one(self):
        chance = random.Random(71)
        found = {}
        while len(found) < 4 or min(found.values()) < 20:
            many = chance.randint(2, 3)
            task = simplex(chance, many, 2, 6) if many == 3 else simplex(chance, 2, chance.randint(2, 3), 5)
            row = task.inputs()[-1]
            places = plain_places(task, row)
            if many ** len(places) > 5000:
                continue
            every = plain_odd_papers(task, row)
            key = (many, len(every) > 0)
            found[key] = found.get(key, 0) + 1
            if found[key] > 60:
                continue
            paper = self.same(odd_paper, "task row", task, row)
            self.assertIs(paper is None, len(every) == 0)
            if paper is not None:
                self.assertEqual((paper[0], list(paper[1])), (row, places))
                self.assertIn(paper[1], every)
                self.check_changed(task, paper, every)
            for _ in range(30):
                numbers = {place: chance.choice((0, 0, 1, 2)) for place in places}
                self.assertIs(is_odd_paper(task, (row, numbers)), numbers in every)
            if many == 2:
                # For two hands, exactly: no number of rounds is enough.
                self.assertIs(paper is None, least(task) is not None)
            elif paper is not None:
                self.check_no_table(task)

    def check_no_table(self, task):
        for rounds in (0, 1):
            try:
                self.assertIsNone(table(task, rounds))
            except TooMany:
                pass

    def check_changed(self, task, paper, every):
        row, numbers = paper
        texts = {kinds(sorted(one.items())) for one in every}
        for place in numbers:
            for put in PUT_IN + (float(numbers[place]),):
                changed = {**numbers, place: put}
                right = kinds(sorted(changed.items())) in texts
                self.assertIs(is_odd_paper(task, (row, changed)), right)
            left = {one: numbers[one] for one in numbers if one != place}
            self.assertIs(is_odd_paper(task, (row, left)), False)
            for put in (None, True, 0, (), (0,), (0, True), (False, 1), place + (0,), (place[0] + 0.5, 0), "0", (3, 7)):
                self.assertIs(is_odd_paper(task, (row, {**left, put: numbers[place]})),
                              kinds(sorted({**left, put: numbers[place]}, key=kinds)) in
                              [kinds(sorted(numbers, key=kinds))])
                if put not in numbers:
                    self.assertIs(is_odd_paper(task, (row, {**numbers, put: 0})), False)

    def test_other_inputs_and_any_value(self):
        for thing in ODD + [PAPER[:1], PAPER + (0,), list(PAPER), (PAPER[1], BOTH), (BOTH, list(PAPER[1].items())),
                            (((0, 0),), {(0, 0): 0}), (((0, 0), (1, 0)), PAPER[1]), (BOTH, {}), (BOTH, None),
                            (((0, 0), (1, 2)), PAPER[1]), (BOTH, {place: True for place in PAPER[1]}),
                            (BOTH, {**PAPER[1], (0, 1): 0}), (BOTH, {**PAPER[1], (1, 1): 2})]:
            self.assertIs(is_odd_paper(AGREE, thing), False)
        for changed in changes(BOTH):
            self.assertIs(is_odd_paper(AGREE, (changed, PAPER[1])), kinds(changed) == kinds(BOTH))
        self.assertIs(is_odd_paper(AGREE, (((0, 1), (1, 0)), {(0, 0): 1, (0, 1): 0, (1, 0): 1, (1, 1): 0})), True)
        self.assertIs(is_odd_paper(AGREE, (((0, 1), (1, 0)), {(0, 1): 0, (0, 0): 1, (1, 1): 1, (1, 0): 1})), False)
        self.assertIs(is_odd_paper(AGREE, (((0, 1), (1, 0)), {(0, 1): 1, (0, 0): 1, (1, 1): 1, (1, 0): 1})), False)

    def test_for_two_hands_no_number_of_rounds(self):
        chance = random.Random(72)
        found = {True: 0, False: 0}
        for _ in range(200):
            task = slim_task(chance, 2, 1, chance.choice((2, 3, 4)))
            row = task.inputs()[-1]
            if len(row) < 2:
                continue
            try:
                paper = odd_paper(task, row)
            except TooMany:
                continue
            found[paper is None] += 1
            self.assertIs(paper is None, least(task) is not None)
        self.assertTrue(min(found.values()) > 10)
        # A task of more rows may be torn though no row of it is.
        self.assertEqual((least(TORN), [odd_paper(TORN, row) for row in TORN.inputs()]), (None, [None] * 8))

    def test_twelve_free_places(self):
        # Hand 0 alone answers 0; its other answers beside hand 1 leave both numbers.
        for count, let in ((12, True), (13, False)):
            row = ((0, 0), (1, 0))
            task = Task(2, {((0, 0),): [((0, 99),)], ((1, 0),): [((1, 99),)],
                            row: [((0, value), (1, 99)) for value in range(count)] + [((0, 99), (1, 99))]})
            if let:
                self.assertIsNone(odd_paper(task, row))
                told = Task(2, {**task.table(), row: [((0, value), (1, 99)) for value in range(count)]})
                self.assertEqual(odd_paper(told, row), (row, {**{(0, value): 1 for value in range(count)}, (0, 99): 0,
                                                              (1, 99): 1}))
            else:
                self.assertEqual(self.told(TooMany, odd_paper, task, row).most, 12)
                self.assertIsNone(odd_paper(task, ((0, 0),)))
                # What is judged has no limit.
                told = Task(2, {**task.table(), row: [((0, value), (1, 99)) for value in range(count)]})
                self.assertIs(is_odd_paper(told, (row, {**{(0, value): 1 for value in range(count)}, (0, 99): 0,
                                                        (1, 99): 1})), True)
        # Places that are free but for one number are not counted.
        many = Task(1, {((0, 0),): [((0, value),) for value in range(100)]})
        self.assertIsNone(odd_paper(many, ((0, 0),)))

    def test_four_hands(self):
        begun = time.monotonic()
        row = ((0, 0), (1, 1), (2, 2), (3, 3))
        task = few(4, (0, 1, 2, 3), 3)
        self.assertEqual(odd_paper(task, row), (row, {(hand, value): value for hand in range(4) for value in range(4)}))
        chance = random.Random(73)
        for most in (3, 30, 81):
            for _ in range(4):
                task = simplex(chance, 4, 3, most)
                try:
                    paper = odd_paper(task, task.inputs()[-1])
                except TooMany:
                    continue
                if paper is not None:
                    self.assertIs(plain_is_odd(task, *paper), True)
        free = Task(4, {part: [tuple((hand, 9) for hand, _ in part)] for part in plain_parts(row)[:-1]}
                    | {row: [told for told in (tuple(zip(range(4), values)) for values in
                                               itertools.product(range(3), repeat=4)) if chance.random() < 0.9]})
        self.assertIsNotNone(odd_paper(free, row))
        self.assertLess(time.monotonic() - begun, 60)

    def test_wrong_parameters(self):
        self.wrong(odd_paper, [AGREE, BOTH], (BadTask, NO_TASKS), (BadInput, NO_ROWS + [((0, 2),), ((0, 0), (2, 0))]))
        self.wrong(is_odd_paper, [AGREE, None], (BadTask, NO_TASKS), (None, []))


class Falls(Case):
    def test_example_by_hand(self):
        asked = []

        def answer(corner):
            asked.append(corner)
            return 0 if corner[0] == 0 or len(corner[1]) == 2 else 1

        fall = self.same(walk_to_fall, "task paper rounds answer order", AGREE, PAPER, 1, answer, (0, 1))
        self.assertEqual(fall, (BOTH, (((1,), (0,)),), ((0, 0), (1, 1))))
        self.assertEqual({kinds(corner) for corner in asked},
                         {kinds(corner) for corner in ((0, ((0, 0),)), (1, BOTH), (0, BOTH), (1, ((1, 1),)))})
        self.assertIs(self.same(is_fall, "task rounds answer thing", AGREE, 1, answer, fall), True)
        for course in ((((0,), (1,)),), (((0, 1),),)):
            for told in (((0, 0), (1, 0)), ((0, 0), (1, 1))):
                self.assertIs(is_fall(AGREE, 1, answer, (BOTH, course, told)), False)
        self.assertIs(is_fall(AGREE, 0, answer, fall), False)
        self.assertIs(is_fall(AGREE, 2, answer, fall), False)
        self.assertIs(is_fall(AGREE, 1, lambda corner: 0, fall), False)

    def test_walks_of_all_kinds(self):
        chance = random.Random(74)
        found = {}
        for _ in range(700):
            many = chance.choice((2, 3, 3, 4))
            if chance.random() < 0.4 and many > 2:
                task = few(many, tuple(range(many)), many - 1)
                row = tuple((hand, hand) for hand in range(many))
            else:
                task = simplex(chance, many, 2, 2 ** many)
                row = task.inputs()[-1]
            try:
                paper = odd_paper(task, row)
            except TooMany:
                continue
            if paper is None:
                continue
            rounds = chance.randint(0, 4 if many < 4 else 2)
            values = sorted({value for _, value in paper[1]})
            # Whoever answers what those may answer that it has seen goes on for long.
            right = chance.random() < 0.85
            answers = Answers(chance, lambda corner: self.let(task, row, rounds, corner) if right else values)
            order = tuple(chance.sample([hand for hand, _ in row], many))
            fall = self.same(walk_to_fall, "task paper rounds answer order", task, paper, rounds, answers, order)
            asked = {kinds(corner) for corner in answers.corners}
            gone, told = plain_fall(task, paper, rounds, answers, order)
            self.assertEqual(fall, told)
            self.assertEqual(asked, {kinds((hand, view)) for part, course in gone
                                     for hand, view in plain_end(part, course).items()})
            self.assertIs(is_fall(task, rounds, answers, fall), True)
            key = (many, len(fall[0]))
            found[key] = found.get(key, 0) + 1
            if found[key] < 5 and rounds < 3:
                self.check_changed(task, rounds, answers, fall)
        self.assertTrue({(2, 2), (3, 1), (3, 2), (3, 3), (4, 4)} <= set(found), found)

    def let(self, task, row, rounds, corner):
        view = ((corner[0], corner[1]),)
        for _ in range(rounds):
            view = max((pair[1] for pair in view), key=len)
        part = tuple(pair for pair in row if pair[0] in [hand for hand, _ in view])
        return [dict(told)[corner[0]] for told in task.answers(part)]

    def check_changed(self, task, rounds, answer, fall):
        texts = {kinds(row) for row in task.inputs()}
        for thing in itertools.islice(changes(fall), 0, None, 7):
            right = isinstance(thing, tuple) and len(thing) == 3 and kinds(thing[0]) in texts and (
                isinstance(thing[1], tuple) and len(thing[1]) == rounds and {kinds(blocks) for blocks in thing[1]}
                <= {kinds(blocks) for blocks in plain_blocks(tuple(hand for hand, _ in thing[0]))}
                and kinds(thing[2]) == kinds(plain_answered(thing[0], thing[1], answer))
                and thing[2] not in task.answers(thing[0]))
            self.assertIs(is_fall(task, rounds, answer, thing), right)

    def test_falls_of_any_value(self):
        for thing in ODD + [(BOTH, (), ((0, 0), (1, 0))), (BOTH, ()), (BOTH, (), None), (BOTH, None, ((0, 0), (1, 1))),
                            (None, (), ((0, 0), (1, 1))), (BOTH, (), [(0, 0), (1, 1)]), (BOTH, (), ((0, 0), (1, True))),
                            (BOTH, (), ((0, False), (1, 1))), ((BOTH, (), ((0, 0), (1, 1))),)]:
            self.assertIs(is_fall(AGREE, 0, lambda corner: corner[0], thing), False)
        self.assertIs(is_fall(AGREE, 0, lambda corner: corner[0], (BOTH, (), ((0, 0), (1, 1)))), True)
        # Numbers that stand nowhere are answered wrongly, too; alone as well.
        self.assertIs(is_fall(AGREE, 0, lambda corner: 999999999, (((0, 0),), (), ((0, 999999999),))), True)
        self.assertIs(is_fall(AGREE, 0, lambda corner: 0, (((0, 0),), (), ((0, 0),))), False)
        for put in (None, True, "0", -1, 10 ** 9, 0.0):
            raised = self.told(BadAnswer, is_fall, AGREE, 0, lambda corner: put if corner[0] else 0,
                               (BOTH, (), ((0, 0), (1, 1))))
            self.assertEqual(raised.corner, (1, 1))

    def test_six_rounds(self):
        begun = time.monotonic()
        chance = random.Random(75)
        three = ((0, 0), (1, 1), (2, 2))
        for task, row in ((AGREE, BOTH), (few(3, (0, 1, 2), 2), three)):
            paper = odd_paper(task, row)
            for _ in range(20):
                answers = Answers(chance, lambda corner: self.let(task, row, 6, corner))
                fall = walk_to_fall(task, paper, 6, answers, tuple(chance.sample(range(len(row)), len(row))))
                self.assertIs(is_fall(task, 6, answers, fall), True)
        self.assertLess(time.monotonic() - begun, 60)

    def test_wrong_parameters(self):
        no_papers = [None, True, (), {}, PAPER[:1], list(PAPER), (BOTH, {**PAPER[1], (0, 1): 0}), (((0, 0),), {(0, 0): 0})]
        no_orders = [None, True, [], (), (0,), [0, 1], (0, 0), (0, 2), (False, 1), (0, 1.0), (0, 1, 1), (1, 0, 2)]
        self.wrong(walk_to_fall, [AGREE, PAPER, 1, lambda corner: 0, (0, 1)], (BadTask, NO_TASKS), (BadPaper, no_papers),
                   (BadRounds, NO_ROUNDS), (None, []), (BadOrder, no_orders))
        self.wrong(is_fall, [AGREE, 1, lambda corner: 0, None], (BadTask, NO_TASKS), (BadRounds, NO_ROUNDS), (None, []), (None, []))
        for put in (None, True, False, "0", -1, 10 ** 9, 0.0, (0,), []):
            raised = self.told(BadAnswer, walk_to_fall, AGREE, PAPER, 1, lambda corner: put, (1, 0))
            self.assertEqual(raised.corner, (1, ((1, 1),)))
            raised = self.told(BadAnswer, walk_to_fall, AGREE, PAPER, 0, lambda corner: put if corner[0] else 0, (0, 1))
            self.assertEqual(raised.corner, (1, 1))


if __name__ == "__main__":
    unittest.main()
