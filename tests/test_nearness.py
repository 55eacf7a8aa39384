"""[100]: near answers between inputs however far apart."""

import itertools
import random
import time

from tests.helping import NO_NUMBERS, ODD, Case, changes, kinds, plain_courses, plain_end, plain_leaves
from waitless.choosing import least
from waitless.errors import BadAnswer, BadCorner, BadMany, BadRounds, BadTop, Enough, TooMany
from waitless.falls import is_fall
from waitless.making import near
from waitless.nearness import is_short_way, near_answer, near_fall, near_rounds, short_way
from waitless.refuting import refutation, table
from waitless.running import Runner
from waitless.tables import corners_of, is_table
from waitless.tasks import may_answer

NO_MANY = NO_NUMBERS + [0, 5, -1, 10 ** 30]
NO_TOP = NO_NUMBERS + [-1, 10 ** 9, 10 ** 30]
NO_ROUNDS = NO_NUMBERS + [-1, 7, 10 ** 30]
GREATEST = 10 ** 9 - 1
# What stands among the odd values and is a corner of two hands for no rounds.
RIGHT = [(0, 1), (1, 0), (0, 0)]
NO_CORNERS = [None, True, 0, (), (0,), [0, 5], (0, 5, 5), (4, 5), (-1, 5), (True, 5), (0, True), (0, -1), (0, 10 ** 9), (0, "5"),
              ((0, 5),), (0, ((0, 5),)), (0, None), (0, 5.0)]


def plain_rounds(many, top):
    """The least number of rounds by the powers of 3 and 2."""
    if many == 1:
        return 0
    count = 0
    while (3 if many == 2 else 2) ** count < top:
        count += 1
    return count


def is_near(row, told):
    values, answers = [value for _, value in row], [value for _, value in told]
    return min(values) <= min(answers) and max(answers) <= max(values) and max(answers) - min(answers) <= 1


def some_row(chance, many, low, high):
    hands = sorted(chance.sample(range(many), chance.randint(1, many)))
    return tuple((hand, chance.randint(low, high)) for hand in hands)


def some_course(chance, hands, rounds):
    every = plain_courses(hands, 1)
    some = chance.sample(every, min(len(every), chance.randint(1, 4)))
    return tuple(chance.choice(some)[0] for _ in range(rounds))


def beside(rounds, one, other):
    """Whether two corners stand behind one course, looked for among all courses of few rounds."""
    row = tuple(sorted(plain_leaves(rounds, (one,)) | plain_leaves(rounds, (other,))))
    if len({hand for hand, _ in row}) != len(row):
        return False
    hands = tuple(hand for hand, _ in row)
    return any(ends[one[0]] == one[1] and ends[other[0]] == other[1]
               for ends in (plain_end(row, course) for course in plain_courses(hands, rounds)))


def own(corner):
    """The value that the hand of a corner began with."""
    view = corner[1]
    while isinstance(view, tuple):
        view = dict(view)[corner[0]]
    return view


def answers_for(top):
    """Functions of a corner that tell what they do."""
    def seen(corner):
        return [value for _, value in all_seen(corner[1])]

    def all_seen(view):
        if isinstance(view, int):
            return [(0, view)]
        return [pair for inner in view for pair in (all_seen(inner[1]) if isinstance(inner[1], tuple) else [inner])]
    return [lambda corner: 0, lambda corner: top, lambda corner: min(seen(corner)), lambda corner: max(seen(corner)),
            lambda corner: (min(seen(corner)) + max(seen(corner))) // 2, lambda corner: top // 2,
            lambda corner: sum(map(ord, kinds(corner))) % (top + 1), lambda corner: corner[0],
            # One hand tells its own value, all others as if they had heard nothing else.
            lambda corner: own(corner) if corner[0] == 0 else 0, lambda corner: own(corner) if corner[0] == 1 else top]


class Nearness(Case):
    def check_fall(self, many, top, rounds, answer, fall):
        row, course, told = fall
        self.assertTrue(all(hand < many and 0 <= value <= top for hand, value in row))
        self.assertEqual(len(course), rounds)
        ends = plain_end(row, course)
        self.assertEqual(told, tuple((hand, answer((hand, ends[hand]))) for hand in ends))
        self.assertFalse(is_near(row, told))

    def test_by_hand(self):
        self.assertEqual([self.same(near_rounds, "many top", 2, top) for top in (0, 1, 2, 3, 4, 9, 10, 27, 28)],
                         [0, 0, 1, 1, 2, 2, 3, 3, 4])
        self.assertEqual([near_rounds(3, top) for top in (0, 1, 2, 3, 4, 5, 8, 9)], [0, 0, 1, 2, 2, 3, 3, 4])
        self.assertEqual(self.same(short_way, "many top rounds", 2, 2, 0), [(0, 0), (1, 2)])
        self.assertEqual(len(short_way(2, 4, 1)), 4)
        self.assertEqual(len(short_way(3, 3, 1)), 3)
        self.assertIsNone(short_way(3, 2, 1))
        self.assertEqual(self.same(near_answer, "many rounds corner", 2, 1, (1, ((1, 8),))), 8)
        self.assertEqual(near_answer(1, 0, (0, GREATEST)), GREATEST)
        self.assertEqual(near_fall(many=2, top=2, rounds=0, answer=lambda corner: corner[1]), (((0, 0), (1, 2)), (), ((0, 0), (1, 2))))

    def test_least_rounds(self):
        chance = random.Random(1001)
        for many in (1, 2, 3, 4):
            for top in list(range(40)) + [chance.randint(0, GREATEST) for _ in range(30)] + [GREATEST]:
                self.assertEqual(near_rounds(many, top), plain_rounds(many, top))
            for count in range(20):
                power = (3 if many == 2 else 2) ** count
                if many > 1 and power < GREATEST:
                    self.assertEqual([near_rounds(many, power + more) for more in (0, 1)], [count, count + 1])
        # What walks tell of two hands ([61]) is the same.
        for top in range(10):
            self.assertEqual(least(near(2, top)), near_rounds(2, top))
        for many, top, rounds in ((2, 1, 0), (2, 2, 0), (2, 3, 1), (3, 1, 0), (3, 2, 0), (2, 4, 1)):
            # Few enough choices, so that all tables are gone through.
            try:
                found = table(near(many, top), rounds)
            except TooMany:
                continue
            self.assertEqual(found is not None, near_rounds(many, top) <= rounds)
            self.assertEqual(refutation(near(many, top), rounds) is None, near_rounds(many, top) <= rounds)

    def test_all_courses_of_few_rounds(self):
        for many, rounds, far in ((1, 2, 0), (2, 0, 1), (2, 1, 3), (2, 2, 9), (2, 3, 27), (3, 0, 1), (3, 1, 2), (3, 2, 4), (4, 1, 2)):
            for least in (0, 5):
                for hands in [group for size in range(1, many + 1) for group in itertools.combinations(range(many), size)]:
                    every = itertools.product(sorted({0, 1, far // 2, far}), repeat=len(hands))
                    courses = plain_courses(hands, rounds)
                    for values in every:
                        row = tuple((hand, least + value) for hand, value in zip(hands, values))
                        told = {}
                        for course in courses if len(courses) < 200 else random.Random(1002).sample(courses, 40):
                            ends = plain_end(row, course)
                            for corner in ends.items():
                                if kinds(corner) not in told:
                                    told[kinds(corner)] = near_answer(many, rounds, corner)
                            self.assertTrue(is_near(row, [(hand, told[kinds((hand, ends[hand]))]) for hand in ends]))

    def test_courses_of_many_rounds(self):
        chance = random.Random(1003)
        for _ in range(250):
            many = chance.randint(1, 4)
            rounds = chance.randint(0, 4 if many == 4 else 6)
            far = 0 if many == 1 else (3 if many == 2 else 2) ** rounds
            low = chance.choice((0, GREATEST - far, chance.randint(0, GREATEST - far)))
            row = some_row(chance, many, low, low + chance.randint(0, far))
            ends = plain_end(row, some_course(chance, tuple(hand for hand, _ in row), rounds))
            self.assertTrue(is_near(row, tuple((hand, near_answer(many, rounds, (hand, ends[hand]))) for hand in ends)))

    def test_inputs_too_far_apart_get_values(self):
        for corner, many, rounds in (((0, ((0, 0), (1, GREATEST))), 2, 1), ((1, ((0, GREATEST), (1, 0))), 2, 1), ((0, 7), 3, 0),
                                     ((2, ((0, GREATEST), (1, 0), (2, 5))), 3, 1)):
            self.assertIn(near_answer(many, rounds, corner), range(GREATEST + 1))

    def test_tables_on_cells(self):
        chance = random.Random(1004)
        for many, top, rounds in ((2, 3, 1), (2, 9, 2), (3, 2, 1), (2, 5, 3), (1, 9, 1), (4, 1, 1)):
            task = near(many, top)
            told = {corner: near_answer(many, rounds, corner) for corner in corners_of(task, rounds)}
            self.assertIs(is_table(task, rounds, told), True)
            for _ in range(20):
                row = some_row(chance, many, 0, top)
                runner = Runner(task, rounds, told, row)
                for _ in range(chance.randint(1, 60)):
                    runner.step(chance.choice([hand for hand, _ in row]))
                    if runner.answers():
                        self.assertTrue(may_answer(task, runner.taking_part(), tuple(runner.answers().items())))
        # A table for a greater top tells the same for a lesser one.
        great = {corner: near_answer(2, 2, corner) for corner in corners_of(near(2, 9), 2)}
        for corner in corners_of(near(2, 4), 2):
            self.assertEqual(great[corner], near_answer(2, 2, corner))

    def test_short_ways(self):
        for many in (1, 2, 3, 4):
            for rounds in range(7):
                steps = 1 if many == 1 else (3 if many == 2 else 2) ** rounds
                for top in (0, 1, 2, 3, steps - 1, steps, steps + 1, steps + 2, 2 * steps, GREATEST):
                    way = short_way(many, top, rounds)
                    self.assertEqual(way is None, plain_rounds(many, top) <= rounds)
                    if way is not None:
                        self.assertIsInstance(way, list)
                        self.assertLessEqual(len(way), top)
                        self.assertIs(is_short_way(many, top, rounds, way), True)
                        self.check_way(many, top, rounds, way)

    def check_way(self, many, top, rounds, way):
        alone = [0, top]
        for hand in (0, 1):
            for _ in range(rounds):
                alone[hand] = ((hand, alone[hand]),)
        self.assertEqual((way[0], way[-1]), ((0, alone[0]), (1, alone[1])))
        for one, other in zip(way, way[1:]):
            self.assertNotEqual(one[0], other[0])
            self.assertTrue(all(hand < many and 0 <= value <= top for corner in (one, other)
                                for hand, value in plain_leaves(rounds, (corner,))))
            if rounds < 3:
                self.assertTrue(beside(rounds, one, other))

    def test_short_ways_are_judged(self):
        for many, top, rounds in ((2, 2, 0), (3, 5, 0), (2, 4, 1), (3, 3, 1), (3, 4, 1), (4, 5, 1), (3, 5, 2)):
            way = short_way(many, top, rounds)
            self.assertIs(is_short_way(many, top, rounds, tuple(way)), True)
            for thing in ODD + [way[1:], way[:-1], way[::-1], [way], way + [way[-1]], way[:1] + way, None]:
                self.assertIs(is_short_way(many, top, rounds, thing), False)
            for less in range(2, len(way)):
                self.assertIs(is_short_way(many, less, rounds, way), False)
            for at in range(len(way)):
                less = way[:at] + way[at + 1:]
                self.assertIs(is_short_way(many, top, rounds, less), self.is_plain_way(many, top, rounds, less))
                twice = way[:at] + way[at:at + 1] + way[at:]
                self.assertIs(is_short_way(many, top, rounds, twice), False)
                for other in changes(way[at]):
                    changed = way[:at] + [other] + way[at + 1:]
                    if is_short_way(many, top, rounds, changed):
                        self.assertTrue(self.is_plain_way(many, top, rounds, changed), changed)
                swapped = way[:at] + way[at:at + 2][::-1] + way[at + 2:]
                self.assertIs(is_short_way(many, top, rounds, swapped),
                              at + 1 >= len(way) or self.is_plain_way(many, top, rounds, swapped))
        self.assertIs(is_short_way(2, 2, 0, [(0, 0), (1, 2)]), True)
        self.assertIs(is_short_way(3, 3, 0, [(0, 0), (2, 3), (1, 3)]), True)
        self.assertIs(is_short_way(3, 3, 0, [(0, 0), (2, 4), (1, 3)]), False)
        self.assertIs(is_short_way(2, 3, 0, [(0, 0), (2, 3), (1, 3)]), False)
        self.assertIs(is_short_way(3, 2, 0, [(0, 0), (2, 1), (1, 2)]), False)
        self.assertIs(is_short_way(2, 2, 0, [(0, False), (1, 2)]), False)
        self.assertIs(is_short_way(2, 1, 0, [(0, 0), (1, 1)]), False)
        self.assertIs(is_short_way(2, 4, 0, [(0, 0), (1, 4), (0, 0), (1, 4)]), True)

    def is_plain_way(self, many, top, rounds, way):
        """Whether corners rightly built make a short way."""
        try:
            self.check_way(many, top, rounds, way)
        except (AssertionError, TypeError, KeyError):
            return False
        return 2 <= len(way) <= top

    def test_falls(self):
        chance = random.Random(1005)
        for many in (2, 3, 4):
            for rounds in range(5):
                steps = (3 if many == 2 else 2) ** rounds
                for top in {steps + 1, 2 * steps + 1, steps + chance.randint(1, 50), GREATEST}:
                    for answer in answers_for(top) + [lambda corner: near_answer(many, rounds, corner)]:
                        fall = near_fall(many, top, rounds, answer)
                        self.check_fall(many, top, rounds, answer, fall)
                        if top < 9 and (top + 2) ** many < 1000:
                            self.assertIs(is_fall(near(many, top), rounds, answer, fall), True)
        self.same(near_fall, "many top rounds answer", 2, 5, 1, answers_for(5)[2])

    def test_enough(self):
        for many in (1, 2, 3, 4):
            for top in (0, 1, 2, 3, 4, 9, 10, 64, 65, 729):
                least = near_rounds(many, top)
                for rounds in range(7):
                    if rounds >= least:
                        self.told(Enough, near_fall, many, top, rounds, lambda corner: None)
                    else:
                        self.check_fall(many, top, rounds, answers_for(top)[2], near_fall(many, top, rounds, answers_for(top)[2]))

    def test_bad_answers(self):
        for wrong in (None, True, -1, 10 ** 9, "1", 1.0, ()):
            for many, at in ((2, 0), (2, 3), (3, 2), (3, 0)):
                way = short_way(many, 9, 1)
                bad = way[min(at, len(way) - 1)]
                near_one = [0, 1, 2, 3]

                def answer(corner):
                    return wrong if corner == bad else near_one[min(way.index(corner), 3)] if corner in way else 0
                try:
                    fall = near_fall(many, 9, 1, answer)
                except BadAnswer as raised:
                    self.assertEqual(kinds(raised.corner), kinds(bad))
                else:
                    self.check_fall(many, 9, 1, answer, fall)
            self.assertEqual(self.told(BadAnswer, near_fall, 2, 9, 1, lambda corner: wrong).corner, short_way(2, 9, 1)[0])

    def test_wrong_parameters(self):
        self.wrong(near_rounds, [2, 5], (BadMany, NO_MANY), (BadTop, NO_TOP))
        self.wrong(near_answer, [2, 0, (0, 5)], (BadMany, NO_MANY), (BadRounds, NO_ROUNDS), (BadCorner, NO_CORNERS))
        self.wrong(short_way, [2, 5, 1], (BadMany, NO_MANY), (BadTop, NO_TOP), (BadRounds, NO_ROUNDS))
        self.wrong(is_short_way, [2, 5, 1, []], (BadMany, NO_MANY), (BadTop, NO_TOP), (BadRounds, NO_ROUNDS), (BadRounds, []))
        self.wrong(near_fall, [2, 50, 1, max], (BadMany, NO_MANY), (BadTop, NO_TOP), (BadRounds, NO_ROUNDS), (BadRounds, []))
        for corner in ((2, 5), (0, ((0, 5), (2, 6)))):
            self.told(BadCorner, near_answer, 2, 0 if corner == (2, 5) else 1, corner)
        self.assertEqual(near_answer(3, 0, (2, 5)), 5)
        for thing in ODD:
            if not (isinstance(thing, tuple) and thing in ((0, 1), (1, 0), (0, 0)) and kinds(thing) in map(kinds, RIGHT)):
                self.told(BadCorner, near_answer, 2, 0, thing)

    def test_great_tops(self):
        begun = time.monotonic()
        for many in (2, 3, 4):
            for rounds in (5, 6):
                way = short_way(many, GREATEST, rounds)
                self.assertEqual(len(way), (3 if many == 2 else 2) ** rounds + 1)
                self.assertTrue(is_short_way(many, GREATEST, rounds, way))
                for answer in answers_for(GREATEST)[:6]:
                    self.check_fall(many, GREATEST, rounds, answer, near_fall(many, GREATEST, rounds, answer))
        self.assertLess(time.monotonic() - begun, 60)
