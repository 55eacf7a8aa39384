"""[71] and [72]: signs, turns, and walks from room to room."""

import random
import time
import unittest

from tests.helping import NO_HAND, NO_HANDS, NO_ROUNDS, NO_ROWS, Case, kinds, plain_courses, plain_end, \
    plain_leaves
from waitless.courses import across
from waitless.errors import BadCourse, BadFull, BadHand, BadHands, BadNumber, BadOrder, BadRounds, BadRow, TooMany
from waitless.signs import inner_turns, rim_turns, sign, turn_of
from waitless.walks import partner, room_walk

SHAPES = ((1, 0), (1, 1), (1, 4), (2, 0), (2, 1), (2, 2), (2, 3), (3, 0), (3, 1), (3, 2), (4, 0), (4, 1))


def row_of(many, spread=1):
    """A row of so many hands."""
    return tuple((hand * spread, 10 + hand) for hand in range(many))


def plain_sign(course):
    """The sign, block by block."""
    turned = 1
    for blocks in course:
        for block in blocks:
            for _ in block[1:]:
                turned = -turned
    return turned


def plain_order(pairs):
    """The sign of a dict from hands to hands, by exchanging until all stand right; 0 if two are alike."""
    told = [number for _, number in sorted(pairs.items())]
    if len(set(told)) < len(told):
        return 0
    turned = 1
    for at in range(len(told)):
        least = told.index(min(told[at:]))
        if least != at:
            told[at], told[least] = told[least], told[at]
            turned = -turned
    return turned


def plain_turn(row, course, number_of):
    """The turn of a course."""
    return plain_sign(course) * plain_order({hand: number_of((hand, view)) for hand, view in plain_end(row, course).items()})


def plain_rim(row, rounds, number_of, hand):
    """rim_turns as it is told."""
    if len(row) == 1:
        return 1
    total = 0
    for own, _ in row:
        others = tuple(pair for pair in row if pair[0] != own)
        for course in plain_courses(tuple(one for one, _ in others), rounds):
            got = {one: number_of((one, view)) for one, view in plain_end(others, course).items()}
            if set(got.values()) == {one for one, _ in row} - {hand}:
                total += plain_sign(course) * plain_order({**got, own: hand})
    return total


class Asked:
    """A numbering that tells some number for each corner, and remembers what it was asked for."""

    def __init__(self, chance, row, rounds, of_seen):
        self.chance, self.hands, self.rounds, self.of_seen = chance, [hand for hand, _ in row], rounds, of_seen
        self.told, self.corners = {}, []

    def __call__(self, corner):
        text = kinds(corner)
        if text not in self.told:
            self.corners.append(corner)
            seen = sorted({hand for hand, _ in plain_leaves(self.rounds, (corner,))})
            self.told[text] = self.chance.choice(seen if self.of_seen else self.hands)
        return self.told[text]


def own_number(corner):
    """Each corner's number is its own hand."""
    return corner[0]


class Signs(Case):
    def test_sign(self):
        for hands in ((0,), (1, 3), (0, 1, 2), (0, 1, 2, 3)):
            for course in plain_courses(hands, 2 if len(hands) < 4 else 1):
                self.assertEqual(sign(hands, course), plain_sign(course))
                for hand in hands:
                    other = across(hands, course, hand)
                    if other is not None:
                        self.assertEqual(sign(hands, other), -sign(hands, course))
        self.assertEqual([self.same(sign, "hands course", (0, 1), course) for course in
                          ((), (((0, 1),),), (((0, 1),), ((0, 1),)), (((0,), (1,)),))], [1, -1, 1, 1])
        self.assertEqual(sign((0, 1, 2, 3), (((0, 1, 2, 3),),) * 39), -1)
        self.assertEqual(sign((0, 1, 2, 3), (((0, 1, 2, 3),),) * 40), 1)

    def test_turns_by_hand(self):
        row = ((0, 5), (1, 8))
        swap = {0: 1, 1: 0}
        for course, turned in (((), 1), ((((0, 1),),), -1), ((((0,), (1,)),), 1)):
            self.assertEqual(self.same(turn_of, "row course number_of", row, course, own_number), turned)
            self.assertEqual(turn_of(row, course, lambda corner: swap[corner[0]]), -turned)
            self.assertEqual(turn_of(row, course, lambda corner: 1), 0)
        self.assertEqual(self.same(inner_turns, "row rounds number_of", row, 1, own_number), 1)
        self.assertEqual(inner_turns(row, 1, lambda corner: swap[corner[0]]), -1)
        self.assertEqual(self.same(rim_turns, "row rounds number_of hand", row, 1, own_number, 0), 1)
        self.assertEqual(inner_turns(row, 1, lambda corner: 0), 0)
        self.assertEqual([rim_turns(((2, 5),), 3, None, 2), inner_turns(((2, 5),), 3, own_number)], [1, 1])

    def test_inner_turns_are_rim_turns(self):
        chance = random.Random(61)
        values = set()
        for many, rounds in SHAPES:
            for at in range(12 if many < 4 else 4):
                row = row_of(many, 1 if many == 4 else chance.randint(1, 3 // max(1, many - 1)))
                of_seen = at % 3 == 0
                numbers = Asked(chance, row, rounds, of_seen)
                courses = plain_courses(tuple(hand for hand, _ in row), rounds)
                told = [plain_turn(row, course, numbers) for course in courses]
                for course, turned in list(zip(courses, told))[:40]:
                    self.assertEqual(turn_of(row, course, numbers), turned)
                inner = inner_turns(row, rounds, numbers)
                self.assertEqual(inner, sum(told))
                values.add(inner)
                for hand, _ in row:
                    self.assertEqual(self.same(rim_turns, "row rounds number_of hand", row, rounds, numbers, hand), inner)
                    self.assertEqual(plain_rim(row, rounds, numbers, hand), inner)
                if of_seen:
                    self.assertEqual(inner, 1)
                    self.assertEqual(sum(1 for turned in told if turned) % 2, 1)
        self.assertTrue({-1, 0, 1} <= values and len(values) > 4, values)

    def test_large(self):
        begun = time.monotonic()
        chance = random.Random(62)
        for many, rounds in ((2, 6), (3, 3), (4, 2), (1, 6)):
            numbers = Asked(chance, row_of(many), rounds, True)
            self.assertEqual(inner_turns(row_of(many), rounds, numbers), 1)
            self.assertEqual(rim_turns(row_of(many), rounds, numbers, many - 1), 1)
        self.assertLess(time.monotonic() - begun, 100)

    def test_wrong_parameters(self):
        no_courses = [None, True, [], [((0, 1),)], (((0, 1), (0,)),), (((0,),),), (((0, True),),), (((0, 2),),),
                      (((0, 1),),) * 41]
        self.wrong(sign, [(0, 1), ()], (BadHands, NO_HANDS), (BadCourse, no_courses))
        row = ((0, 5), (1, 8))
        put = [lambda corner: None, lambda corner: True, lambda corner: 2, lambda corner: -1, lambda corner: "0",
               lambda corner: (0,), lambda corner: 0.0, lambda corner: 10 ** 30, lambda corner: [], lambda corner: False]
        self.wrong(turn_of, [row, (((0, 1),),), own_number], (BadRow, NO_ROWS), (BadCourse, no_courses), (BadNumber, put))
        self.wrong(inner_turns, [row, 1, own_number], (BadRow, NO_ROWS), (BadRounds, NO_ROUNDS), (BadNumber, put))
        self.wrong(rim_turns, [row, 1, own_number, 0], (BadRow, NO_ROWS), (BadRounds, NO_ROUNDS), (None, []),
                   (BadHand, NO_HAND + [2, 3]))
        for one in put:
            self.told(BadNumber, rim_turns, row, 1, one, 0)
            self.told(BadHand, rim_turns, row, 1, one, 2)
        self.assertEqual(self.told(TooMany, turn_of, row, (((0, 1),),) * 7, None).most, 6)
        self.assertEqual(turn_of(row, (((0, 1),),) * 6, own_number), 1)
        for many, rounds, let in ((4, 2, True), (4, 3, False), (3, 3, True), (3, 4, False), (2, 6, True), (1, 6, True)):
            for called, told in ((inner_turns, ()), (rim_turns, (0,))):
                if let:
                    self.assertEqual(called(row_of(many), rounds, own_number, *told), 1)
                else:
                    self.assertEqual(self.told(TooMany, called, row_of(many), rounds, None, *told).most, 6000)
        self.told(BadHand, rim_turns, row_of(4), 6, None, None)

    def test_the_corner_of_a_wrong_number_is_told(self):
        row = ((0, 5), (1, 8))
        for corner in ((0, ((0, 5),)), (1, ((1, 8),)), (1, ((0, 5), (1, 8)))):
            def number_of(asked):
                return None if asked == corner else 0
            self.assertEqual(self.told(BadNumber, inner_turns, row, 1, number_of).corner, corner)
            if len(corner[1]) == 1:
                self.assertEqual(self.told(BadNumber, rim_turns, row, 1, number_of, 0).corner, corner)
            else:
                rim_turns(row, 1, number_of, 0)
        # A numbering may tell hands that a corner hasn't seen, as long as they are the row's.
        self.assertEqual(inner_turns(row, 1, lambda corner: 1 - corner[0]), -1)


def plain_numbers(row, room, number_of):
    """The numbers of the corners of a room."""
    hands, course = room
    part = tuple(pair for pair in row if pair[0] in hands)
    return {hand: number_of((hand, view)) for hand, view in plain_end(part, course).items()}


def plain_rooms(row, rounds, order, number_of):
    """All rooms."""
    found = []
    for size in range(1, len(order) + 1):
        hands = tuple(sorted(order[:size]))
        for course in plain_courses(hands, rounds):
            if set(order[:size - 1]) <= set(plain_numbers(row, (hands, course), number_of).values()):
                found.append((hands, course))
    return found


def are_neighbours(row, order, number_of, one, other):
    """Whether two rooms are neighbours, as it is told."""
    numbers = plain_numbers(row, one, number_of)
    size = len(one[0])
    if one[0] == other[0]:
        return any(across(one[0], one[1], hand) == other[1]
                   and sorted(numbers[last] for last in one[0] if last != hand) == sorted(order[:size - 1])
                   for hand in one[0])
    if len(other[0]) != size + 1:
        return False
    late = order[size]
    return sorted(numbers.values()) == sorted(one[0]) and other[1] == tuple(blocks + ((late,),) for blocks in one[1])


class Walks(Case):
    def test_by_hand(self):
        row = ((0, 5), (1, 8))
        rooms = self.same(room_walk, "row rounds number_of order course", row, 1, own_number, (0, 1), None)
        self.assertEqual(rooms, [((0,), (((0,),),)), ((0, 1), (((0,), (1,)),))])
        self.assertEqual(room_walk(row, 1, own_number, (1, 0)), [((1,), (((1,),),)), ((0, 1), (((1,), (0,)),))])
        # Whoever sees hand 1 has its number.
        def higher(corner):
            return max(hand for hand, _ in corner[1])
        self.assertEqual(room_walk(row, 1, higher, (0, 1)), rooms)
        self.assertIsNone(self.same(partner, "row rounds number_of order course", row, 1, higher, (0, 1),
                                    (((0,), (1,)),)))
        self.assertEqual(room_walk(row, 1, own_number, (0, 1), (((0, 1),),)),
                         [((0, 1), (((0, 1),),)), ((0, 1), (((1,), (0,)),))])
        self.assertEqual(partner(row, 1, own_number, (0, 1), (((0, 1),),)), (((1,), (0,)),))
        alone = ((3, 9),)
        for course in (None, (((3,),),) * 2):
            self.assertEqual(room_walk(alone, 2, own_number, (3,), course), [((3,), (((3,),),) * 2)])
        self.assertIsNone(partner(alone, 2, own_number, (3,), (((3,),),) * 2))
        self.assertEqual(room_walk(row, 0, own_number, (0, 1)), [((0,), ()), ((0, 1), ())])

    def test_walks_of_all_small_shapes(self):
        chance = random.Random(63)
        for many, rounds in SHAPES:
            for _ in range(5 if many * rounds < 6 else 2):
                row = row_of(many)
                order = chance.sample([hand for hand, _ in row], many)
                self.check_walk(row, rounds, tuple(order), chance)

    def check_walk(self, row, rounds, order, chance):
        numbers = Asked(chance, row, rounds, True)
        rooms = self.same(room_walk, "row rounds number_of order", row, rounds, numbers, order)
        self.check_rooms(row, rounds, order, numbers, rooms)
        self.assertEqual(rooms[0], ((order[0],), (((order[0],),),) * rounds))
        # Only corners of the rooms were asked for.
        asked = {kinds(corner) for corner in numbers.corners}
        let = {kinds((hand, view)) for hands, course in rooms
               for hand, view in plain_end(tuple(pair for pair in row if pair[0] in hands), course).items()}
        self.assertEqual(asked, let)
        hands = tuple(hand for hand, _ in row)
        full = [course for course in plain_courses(hands, rounds)
                if set(plain_numbers(row, (hands, course), numbers).values()) == set(hands)]
        alone = [course for course in full if partner(row, rounds, numbers, order, course) is None]
        self.assertEqual(alone, [rooms[-1][1]])
        self.assertEqual(plain_turn(row, alone[0], numbers), 1)
        for course in full[:80]:
            other = self.same(partner, "row rounds number_of order course", row, rounds, numbers, order, course)
            found = room_walk(row, rounds, numbers, order, course)
            self.assertEqual(found[0], (hands, course))
            self.check_rooms(row, rounds, order, numbers, found)
            if other is None:
                self.assertEqual(found, rooms[::-1])
            else:
                self.assertEqual(found[-1], (hands, other))
                self.assertEqual(partner(row, rounds, numbers, order, other), course)
                self.assertEqual(plain_turn(row, other, numbers), -plain_turn(row, course, numbers))
        for course in plain_courses(hands, rounds)[:60]:
            if course not in full:
                self.told(BadFull, room_walk, row, rounds, numbers, order, course)
                self.told(BadFull, partner, row, rounds, numbers, order, course)
        if len(row) * rounds < 5:
            self.check_neighbours(row, rounds, order, numbers)

    def check_rooms(self, row, rounds, order, numbers, rooms):
        self.assertEqual(len({kinds(room) for room in rooms}), len(rooms))
        for hands, course in rooms:
            self.assertEqual(hands, tuple(sorted(order[:len(hands)])))
            self.assertEqual(len(course), rounds)
        for one, other in zip(rooms, rooms[1:]):
            self.assertTrue(are_neighbours(row, order, numbers, one, other)
                            or are_neighbours(row, order, numbers, other, one))
        last = rooms[-1]
        if len(last[0]) > 1:
            self.assertEqual(sorted(plain_numbers(row, last, numbers).values()), [hand for hand, _ in row])

    def check_neighbours(self, row, rounds, order, numbers):
        rooms = plain_rooms(row, rounds, order, numbers)
        for room in rooms:
            many = sum(1 for other in rooms if other != room and (are_neighbours(row, order, numbers, room, other)
                                                                  or are_neighbours(row, order, numbers, other, room)))
            full = sorted(plain_numbers(row, room, numbers).values()) == [hand for hand, _ in row]
            self.assertEqual(many, 2 - (len(room[0]) == 1) - full)

    def test_large(self):
        begun = time.monotonic()
        chance = random.Random(64)
        for many, rounds in ((2, 6), (3, 3), (3, 6), (4, 2), (4, 3)):
            for _ in range(3):
                row = row_of(many)
                order = tuple(chance.sample(range(many), many))
                numbers = Asked(chance, row, rounds, True)
                rooms = room_walk(row, rounds, numbers, order)
                self.check_rooms(row, rounds, order, numbers, rooms)
        self.assertLess(time.monotonic() - begun, 100)

    def test_wrong_parameters(self):
        row = ((0, 5), (1, 8))
        no_orders = [None, True, [], (), (0,), [0, 1], (0, 0), (0, 1, 1), (0, 2), (False, 1), (0, True), (0, 1.0), ("0", 1),
                     (0, 1, 2), ((0, 1),), "01", {0: 1}, (None, 0)]
        no_courses = [True, [], (), (((0,),),), (((0, 1),),) * 2, (((0, 1), (0,)),), (((0, True),),), [((0, 1),)], 0]
        rest = ((BadRow, NO_ROWS), (BadRounds, NO_ROUNDS), (None, []), (BadOrder, no_orders), (BadCourse, no_courses))
        self.wrong(room_walk, [row, 1, own_number, (0, 1), (((0, 1),),)], *rest)
        self.wrong(partner, [row, 1, own_number, (0, 1), (((0, 1),),)], *rest[:4], (BadCourse, [None] + no_courses))
        for put in (None, True, False, 2, -1, "0", (0,), 0.0, [], 10 ** 30):
            for course in (None, (((0, 1),),)):
                raised = self.told(BadNumber, room_walk, row, 1, lambda corner: put, (0, 1), course)
                self.assertEqual(raised.corner, (0, ((0, 5),)) if course is None else (0, row))
            self.told(BadNumber, partner, row, 1, lambda corner: put, (0, 1), (((0, 1),),))
        # A hand that wasn't seen may not be told, even if it is one of the row's.
        raised = self.told(BadNumber, room_walk, row, 1, lambda corner: 1, (0, 1))
        self.assertEqual(raised.corner, (0, ((0, 5),)))
        raised = self.told(BadNumber, room_walk, row, 1, lambda corner: 0, (0, 1), (((1,), (0,)),))
        self.assertEqual(raised.corner, (1, ((1, 8),)))
        self.told(BadFull, room_walk, row, 1, lambda corner: 0, (0, 1), (((0, 1),),))
        self.told(BadNumber, room_walk, row, 1, lambda corner: 0 if len(corner[1]) == 1 else 5, (0, 1), (((0, 1),),))


if __name__ == "__main__":
    unittest.main()
