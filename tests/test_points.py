"""[94]: loop tasks, and points of a triangle that do those whose loop can be drawn together."""

import itertools
import random
import time
from fractions import Fraction

from tests.helping import NO_NUMBERS, NO_ROWS, ODD, Case, kinds, plain_blocks, plain_sights
from tests.shapes import (BOTTLE, FOUR_HOLES, GRID, OCTAHEDRON, PLANE, SURFACES, TETRAHEDRON, TORUS, TWO_HOLES, around_place,
                          is_spot, near_places, some_drawn_loop, some_loop)
from tests.test_drawing import NO_WAYS
from tests.test_surfaces import NO_SURFACES
from tests.test_undrawing import is_plain_paper
from waitless.errors import BadCourse, BadLoop, BadMarks, BadPoint, BadRow, BadSurface, TooMany, Undrawn
from waitless.papers import all_rounds
from waitless.points import Points, loop_task
from waitless.surfaces import Surface
from waitless.tasks import Task
from waitless.undrawing import drawn

FOUR, SEVEN, SIX = Surface(TETRAHEDRON), Surface(TORUS), Surface(PLANE)
ROW = ((0, 0), (1, 1), (2, 2))
NO_MARKS = [None, True, 0, [1, 2], (), (1,), (1, 2, 3), (2, 1), (1, 1), (0, 2), (1, 3), (-1, 2), (True, 2), (1, True), ("1", 2),
            (1, 2.0), (1, None), {1: 2}, (1, 10 ** 30), ((1,), 2)]


def plain_sides(loop, marks):
    return {(0, 1): loop[:marks[0] + 1], (1, 2): loop[marks[0]:marks[1] + 1], (0, 2): loop[marks[1]:]}


def are_plain_marks(loop, marks):
    return all(len({key for key, _ in itertools.groupby(side)}) == len(list(itertools.groupby(side)))
               for side in plain_sides(loop, marks).values())


def is_plain_answer(surface, loop, marks, row, places):
    """Whether places are let to the inputs of row."""
    inputs = tuple(sorted({value for _, value in row}))
    if len(inputs) == 1:
        return set(places) == {(loop[0], loop[marks[0]], loop[marks[1]])[inputs[0]]}
    if len(inputs) == 3:
        return is_spot(surface, places)
    side = plain_sides(loop, marks)[inputs]
    return any(set(places) <= set(side[at:at + 2]) for at in range(len(side) - 1))


def plain_points(row, course):
    """The points of all hands behind a course, as shares that make one."""
    points = {hand: tuple(Fraction(int(value == corner)) for corner in range(3)) for hand, value in row}
    for blocks in course:
        sees = plain_sights(blocks)
        points = {hand: tuple((points[hand][at] + 2 * sum(points[other][at] for other in sees[hand] - {hand}))
                              / (2 * len(sees[hand]) - 1) for at in range(3)) for hand in points}
    return points


def whole(point):
    """A point with whole shares."""
    times = 1
    for share in point:
        times = times * share.denominator
    return tuple(int(share * times) for share in point)


def some_marked(chance, surface, steps, count):
    """Loops by chance with marks."""
    found = []
    while len(found) < count:
        loop = some_loop(chance, surface, chance.randint(2, steps))
        if chance.random() < 0.3:
            loop = some_drawn_loop(chance, surface, 3 * steps)
        if not 4 <= len(loop) <= 40:
            continue
        marks = tuple(sorted(chance.sample(range(1, len(loop) - 1), 2)))
        if are_plain_marks(loop, marks):
            found.append((loop, marks))
    return found


class LoopTasks(Case):
    def test_by_hand(self):
        task = self.same(loop_task, "surface loop marks", FOUR, (0, 1, 2, 0), (1, 2))
        self.assertIsInstance(task, Task)
        self.assertEqual((task.many, len(task.inputs())), (3, 63))
        self.assertEqual(task.answers(((1, 2),)), [((1, 2),)])
        self.assertEqual(task.answers(((0, 0), (2, 2))), [((0, 0), (2, 0)), ((0, 0), (2, 2)), ((0, 2), (2, 0)), ((0, 2), (2, 2))])
        self.assertEqual(len(task.answers(ROW)), 4 + 6 * 6 + 4 * 6)
        task = loop_task(FOUR, (3, 3, 3, 3), (1, 2))
        self.assertEqual(task.answers(((0, 0), (1, 1))), [((0, 3), (1, 3))])

    def test_tasks(self):
        chance = random.Random(941)
        for surface in (FOUR, Surface(OCTAHEDRON), SEVEN, SIX):
            for loop, marks in some_marked(chance, surface, 8, 5):
                task = loop_task(surface, loop, marks)
                let = [place for place in surface.places]
                for row in task.inputs():
                    wanted = [places for places in itertools.product(let, repeat=len(row))
                              if is_plain_answer(surface, loop, marks, row, places)]
                    self.assertEqual([tuple(place for _, place in answer) for answer in task.answers(row)], sorted(wanted))
                self.assertEqual(len(task.inputs()), 63)

    def test_papers_for_all_rounds(self):
        # What counts around a loop shows that no number of rounds is enough; what is drawn together has no such paper.
        chance = random.Random(942)
        met = {True: 0, False: 0}
        for surface in (SEVEN, SIX, FOUR):
            for loop, marks in some_marked(chance, surface, 6, 12):
                together = drawn(surface, loop) is not None
                self.assertEqual(all_rounds(loop_task(surface, loop, marks), ROW) is None, together)
                met[together] += 1
        self.assertGreater(min(met.values()), 5)

    def test_wrong_parameters(self):
        loop = (0, 1, 2, 0)
        no_loops = NO_WAYS + [(0, 1), (0, 1, 2), [0, 1, 2, 0]]
        for called in (loop_task, Points):
            self.wrong(called, [FOUR, loop, (1, 2)], (BadSurface, NO_SURFACES), (BadLoop, no_loops), (BadMarks, NO_MARKS))
            for thing in ODD:
                if thing != (1, 2):
                    self.told(BadMarks, called, FOUR, loop, thing)
            for short in ((0,), (0, 0), (0, 1, 0)):
                for marks in ((1, 2), (1, 1), (0, 1)):
                    self.told(BadMarks, called, FOUR, short, marks)
            # A place comes again on a side, behind another one; side by side it may.
            self.told(BadMarks, called, FOUR, (0, 1, 0, 1, 2, 0), (3, 4))
            self.told(BadMarks, called, FOUR, (0, 1, 2, 3, 2, 0), (1, 4))
            self.told(BadMarks, called, FOUR, (0, 1, 2, 3, 0, 3, 0), (1, 2))
            called(FOUR, (0, 0, 1, 1, 2, 2, 0, 0), (2, 5))
            for marks in ((2, 2), (3, 3), (3, 2), (4, 3), (1, 4), (0, 3), (1, 5)):
                self.told(BadMarks, called, FOUR, (0, 1, 2, 3, 0), marks)
            for marks in ((1, 2), (1, 3), (2, 3)):
                called(FOUR, (0, 1, 2, 3, 0), marks)

    def test_errors_in_sequence(self):
        great = Surface([tuple(50 if place == 5 else place for place in triangle) for triangle in PLANE])
        loop = (0, 1, 4, 0)
        for called in (loop_task, Points):
            self.told(BadMarks, called, great, loop, (2, 1))
            self.told(BadLoop, called, great, (0, 1), (2, 1))
            self.assertIsNone(self.told(TooMany, called, great, loop, (1, 2)).most)
            for length, error in ((40, None), (41, TooMany)):
                long = (0,) * (length - 3) + (1, 2, 0)
                if error is None:
                    called(FOUR, long, (length - 3, length - 2))
                else:
                    self.assertIsNone(self.told(TooMany, called, FOUR, long, (length - 3, length - 2)).most)
                    self.told(BadMarks, called, FOUR, long, (0, length - 2))
            # Behind this, the loop that can't be drawn together.
            around = (0,) * 37 + (1, 2, 3, 4, 5, 6, 0)
            self.told(TooMany, called, SEVEN, around, (38, 40))
        self.assertEqual(len(Surface(BOTTLE).triangles), 18)
        self.assertIsNone(self.told(TooMany, loop_task, Surface(BOTTLE), (0, 0, 0, 0), (1, 2)).most)
        self.assertEqual(Points(Surface(BOTTLE), (0, 0, 0, 0), (1, 2)).answers(((0, 1),), self.alone(Points(
            Surface(BOTTLE), (0, 0, 0, 0), (1, 2)).rounds)), {0: 0})
        sixteen = self.double_pyramid(8)
        self.assertEqual(len(loop_task(sixteen, (0, 1, 8, 0), (1, 2)).inputs()), 63)
        self.told(TooMany, loop_task, self.double_pyramid(9), (0, 1, 9, 0), (1, 2))
        for loop, marks in (((0, 1, 2, 3, 4, 5, 6, 0), (2, 4)), ((0, 1, 2, 3, 4, 5, 6, 0), (1, 6))):
            self.assertTrue(is_plain_paper(SEVEN, loop, self.told(Undrawn, Points, SEVEN, loop, marks).paper))
            loop_task(SEVEN, loop, marks)

    def alone(self, rounds):
        return (((0,),),) * rounds

    def double_pyramid(self, number):
        ring = [(at, (at + 1) % number) for at in range(number)]
        return Surface([tuple(sorted((one, other, top))) for one, other in ring for top in (number, number + 1)])


class PointsOfTriangles(Case):
    def test_by_hand(self):
        points = Points(surface=FOUR, loop=(0, 1, 2, 0), marks=(1, 2))
        self.assertIsInstance(points.rounds, int)
        self.assertLessEqual(points.rounds, 40)
        self.assertEqual([points.answer(point=point) for point in ((1, 0, 0), (0, 7, 0), (0, 0, 10 ** 40))], [0, 1, 2])
        course = (((0,), (1, 2)),) * points.rounds
        self.assertEqual(points.answers(row=((0, 1), (1, 1), (2, 1)), course=course), {0: 1, 1: 1, 2: 1})
        self.assertEqual(self.same(points.answers, "row course", ((2, 0),), (((2,),),) * points.rounds), {2: 0})
        still = Points(FOUR, (3, 3, 3, 3), (1, 2))
        self.assertEqual(still.answer((1, 2, 3)), 3)

    def test_answers_are_let(self):
        chance = random.Random(943)
        for surface, sides, _ in SURFACES:
            if sides == 1 and len(surface.triangles) > 30:
                continue
            for loop, marks in some_marked(chance, surface, 12, 25):
                try:
                    points = Points(surface, loop, marks)
                except Undrawn as raised:
                    self.assertTrue(is_plain_paper(surface, loop, raised.paper))
                    self.assertIsNone(drawn(surface, loop))
                    continue
                self.assertLessEqual(points.rounds, 40)
                for _ in range(12):
                    self.check_course(chance, surface, loop, marks, points)

    def check_course(self, chance, surface, loop, marks, points):
        hands = chance.choice([(0,), (2,), (0, 1), (1, 2), (0, 2), (0, 1, 2), (0, 1, 2), (0, 1, 2)])
        row = tuple((hand, chance.randint(0, 2)) for hand in hands)
        every = plain_blocks(hands)
        some = chance.sample(every, chance.randint(1, min(3, len(every))))
        course = tuple(chance.choice(some) for _ in range(points.rounds))
        found = points.answers(row, course)
        self.assertEqual(list(found), list(hands))
        self.assertTrue(is_plain_answer(surface, loop, marks, row, tuple(found.values())), (surface.triangles, loop, marks, row, course))
        ends = plain_points(row, course)
        self.assertEqual(found, {hand: points.answer(whole(ends[hand])) for hand in hands})

    def test_all_that_lies_close_is_let(self):
        # Behind all rounds points lie so close that each share differs by at most (3 / 5) ** rounds.
        chance = random.Random(944)
        for surface in (FOUR, SEVEN, SIX, Surface(TWO_HOLES)):
            for loop, marks in some_marked(chance, surface, 9, 30):
                if drawn(surface, loop) is None:
                    continue
                points = Points(surface, loop, marks)
                near = Fraction(3 ** points.rounds, 5 ** points.rounds)
                for _ in range(60):
                    middle = self.some_point(chance)
                    close = [tuple((1 - near) * share + near * other for share, other in zip(middle, self.some_point(chance)))
                             for _ in range(3)]
                    self.assertTrue(is_spot(surface, [points.answer(whole(one)) for one in close]))
                for side in ((0, 1), (1, 2), (0, 2)):
                    for _ in range(20):
                        middle = self.some_point(chance, side)
                        close = [tuple((1 - near) * share + near * other for share, other in zip(middle, self.some_point(chance, side)))
                                 for _ in range(3)]
                        row = tuple(zip((0, 1, 2), side + side[:1]))
                        places = tuple(points.answer(whole(one)) for one in close)
                        self.assertTrue(is_plain_answer(surface, loop, marks, row, places))

    def test_courses_led_to_where_answers_differ(self):
        # In each round the blocks are taken behind which answers would be as unlike as can be by then.
        chance = random.Random(947)
        for surface in (FOUR, Surface(OCTAHEDRON), SEVEN, SIX, Surface(TWO_HOLES), Surface(BOTTLE)):
            for loop, marks in some_marked(chance, surface, 9, 14):
                if drawn(surface, loop) is None:
                    continue
                points = Points(surface, loop, marks)
                for row in [ROW] * 6 + [((0, 0), (1, 1)), ((0, 1), (2, 2)), ((0, 2), (1, 0), (2, 2)), ((1, 2), (2, 0))]:
                    course = self.worst_course(chance, surface, points, row)
                    found = points.answers(row, course)
                    self.assertTrue(is_plain_answer(surface, loop, marks, row, tuple(found.values())), (loop, marks, row, course))

    def worst_course(self, chance, surface, points, row):
        hands = tuple(hand for hand, _ in row)
        every, course = plain_blocks(hands), ()
        held = {hand: tuple(int(value == corner) for corner in range(3)) for hand, value in row}
        for _ in range(points.rounds):
            best = None
            for blocks in every:
                sees = plain_sights(blocks)
                moved = {hand: tuple(15 // (2 * len(sees[hand]) - 1) * (2 * sum(held[other][at] for other in sees[hand]) - held[hand][at])
                                     for at in range(3)) for hand in hands}
                places = {points.answer(moved[hand]) for hand in hands}
                worth = (not is_spot(surface, places), len(places), chance.random())
                if best is None or worth > best[0]:
                    best = (worth, blocks, moved)
            course, held = course + (best[1],), best[2]
        return course

    def test_along_rays_and_around(self):
        # Side by side, wherever it is, what is answered is one place or the two ends of a tie.
        chance = random.Random(948)
        middle = (1, 1, 1)
        for surface in (FOUR, SEVEN, SIX, Surface(TWO_HOLES)):
            count = 0
            for loop, marks in some_marked(chance, surface, 9, 30):
                if drawn(surface, loop) is None or count == 5:
                    continue
                count += 1
                points = Points(surface, loop, marks)
                for _ in range(3):
                    rim = self.rim_point(chance.randrange(3000), 1000)
                    self.check_line(surface, points, [tuple((3000 - at) * one + 1000 * at for one in rim) for at in range(3001)])
                    self.check_line(surface, points, [tuple((1500 - at) * one + 1000 * (1500 + at) for one in rim) for at in range(1501)])
                for depth in (0, 1, 40, chance.randint(41, 499), chance.randint(41, 499), 499, 500):
                    around = [self.rim_point(at, 1000) for at in range(3001)]
                    self.check_line(surface, points, [tuple(3 * (1000 - depth) * one + 1000 * depth for one in rim) for rim in around])
                self.assertEqual(points.answer(middle), loop[0])

    def test_every_square(self):
        # For loops that are drawn together by a few pushes: wherever four close points of a fine net lie, they answer a spot.
        chance = random.Random(949)
        count = {"in": 0, "out": 0}
        while min(count.values()) < 6:
            surface = chance.choice([FOUR, Surface(OCTAHEDRON), SEVEN, SIX, Surface(TWO_HOLES)])
            loop, marks = self.loop_around(chance, surface)
            pushes = drawn(surface, loop)
            words = {push[0] for push in pushes}
            if len(pushes) < 25 and are_plain_marks(loop, marks) and (words == {"in", "out"} or count["out"] < 6):
                count["in" if "in" in words else "out"] += 1
                self.check_net(surface, loop, marks)

    def loop_around(self, chance, surface):
        """A loop around a place or two, which can be drawn together, and marks on it."""
        loop = around_place(surface, chance.choice(surface.places))
        if chance.random() < 0.4:
            other = around_place(surface, chance.choice(surface.places))
            if loop[0] in other:
                at = other.index(loop[0])
                loop = loop + (other[at:-1] + other[:at + 1])[1:]
        return loop, tuple(sorted(chance.sample(range(1, len(loop) - 1), 2)))

    def check_net(self, surface, loop, marks):
        points = Points(surface, loop, marks)
        rim = [self.rim_point(3 * at + 1, 200) for at in range(200)]
        net = [[points.answer(tuple(3 * (2000 - depth) * one + 200 * depth for one in there)) for there in rim + rim[:1]]
               for depth in range(0, 1010, 3)]
        for one, other in zip(net, net[1:]):
            for at in range(200):
                self.assertTrue(is_spot(surface, one[at:at + 2] + other[at:at + 2]), (loop, marks))

    def test_loops_that_need_many_pushes(self):
        chance = random.Random(950)
        ring = [(at, (at + 1) % 30) for at in range(30)]
        pyramid = Surface([tuple(sorted((one, other, top))) for one, other in ring for top in (30, 31)])
        cases = [(pyramid, tuple(range(30)) + (0,), (10, 20))]
        for wide, high in ((3, 3), (3, 5), (4, 5)):
            spots = [(at, 0) for at in range(wide)] + [(wide, up) for up in range(high)]
            spots += [(wide - at, high) for at in range(wide)] + [(0, high - up) for up in range(high + 1)]
            cases.append((Surface(GRID), tuple(6 * (at % 5) + up % 6 for at, up in spots), (wide, wide + high + 1)))
        for surface, loop, marks in cases:
            points = Points(surface, loop, marks)
            self.assertGreater(len(drawn(surface, loop)), 64)
            for _ in range(3):
                rim = self.rim_point(chance.randrange(3000), 1000)
                self.check_line(surface, points, [tuple((3000 - at) * one + 1000 * at for one in rim) for at in range(3001)])
            for depth in (1, chance.randint(2, 300), chance.randint(300, 499)):
                around = [self.rim_point(at, 1000) for at in range(3001)]
                self.check_line(surface, points, [tuple(3 * (1000 - depth) * one + 1000 * depth for one in rim) for rim in around])
            for _ in range(6):
                found = points.answers(ROW, self.worst_course(chance, surface, points, ROW))
                self.assertTrue(is_spot(surface, found.values()))
                self.check_course(chance, surface, loop, marks, points)

    def rim_point(self, at, whole_side):
        """A point of the rim, by how far around it lies."""
        shares = [0, 0, 0]
        corner, along = at // whole_side % 3, at % whole_side
        shares[corner] = whole_side - along
        shares[(corner + 1) % 3] = along
        return tuple(shares)

    def check_line(self, surface, points, line):
        places = [points.answer(point) for point in line]
        for one, other in zip(places, places[1:]):
            self.assertTrue(is_spot(surface, (one, other)))

    def some_point(self, chance, corners=(0, 1, 2)):
        """A point, often near to a rim, a corner or the middle."""
        shares = [Fraction(0)] * 3
        kind = chance.random()
        for corner in corners:
            shares[corner] = Fraction(chance.choice((0, 1, 1, 10 ** 6)) if kind < 0.3 else chance.randint(0, 1000))
            if kind > 0.7:
                shares[corner] += 20000
        total = sum(shares)
        if total == 0:
            shares[corners[0]], total = Fraction(1), 1
        return tuple(share / total for share in shares)

    def test_shares_are_told_by_their_parts(self):
        chance = random.Random(945)
        points = Points(SEVEN, (0, 1, 3, 0), (1, 2))
        for _ in range(200):
            point = tuple(chance.randint(0, 60) for _ in range(3))
            if any(point):
                self.assertEqual(points.answer(point), points.answer(tuple(7 * share for share in point)))

    def test_wrong_parameters(self):
        points = Points(FOUR, (0, 1, 2, 0), (1, 2))
        right = (((0,), (1,), (2,)),) * points.rounds
        for row in NO_ROWS + [((3, 0),), ((0, 3),), ((0, 0), (3, 1)), ((0, 0), (1, 3))]:
            self.told(BadRow, points.answers, row, right)
            self.told(BadRow, points.answers, row, None)
        for course in (None, True, (), [], right[1:], right + right[:1], list(right), (((0,), (1,)),) * points.rounds,
                       right[:-1] + (((0,), (1,)),), 0, "", right[:-1] + (((0, 1, 2, 3),),)):
            if course != right:
                self.told(BadCourse, points.answers, ROW, course)
        for point in NO_NUMBERS + [(), (0, 0, 0), (1, 2), (1, 2, 3, 4), [1, 2, 3], (1, -1, 3), (True, 1, 1), (1, 1, None), (1, 1, 1.0),
                                   ("1", 1, 1), (0, False, 1)]:
            self.told(BadPoint, points.answer, point)
        for thing in ODD:
            if not (isinstance(thing, tuple) and len(thing) == 3 and kinds(thing) == kinds((0, 1, 2))):
                self.told(BadPoint, points.answer, thing)

    def test_nothing_is_tied_to_the_inside(self):
        points = Points(SEVEN, (0, 1, 3, 0), (1, 2))
        course = (((0, 1, 2),),) * points.rounds
        found = points.answers(ROW, course)
        points.answers(ROW, course).clear()
        self.assertEqual(points.answers(ROW, course), found)

    def test_forty_places_on_sixty_triangles(self):
        begun = time.monotonic()
        chance = random.Random(946)
        for triangles in (GRID, FOUR_HOLES):
            surface = Surface(triangles)
            near = near_places(surface)
            count = 0
            while count < 6:
                loop = some_drawn_loop(chance, surface, 400)[:-1]
                sides = [loop[0:1]]
                for place in loop[1:38]:
                    if place not in sides[-1] or place == sides[-1][-1]:
                        sides[-1] += (place,)
                    elif len(sides) < 3:
                        sides.append((sides[-1][-1], place))
                    else:
                        break
                if len(sides) < 3 or sides[0][0] not in near[sides[2][-1]] or sides[0][0] in sides[2]:
                    continue
                loop = sides[0] + sides[1][1:] + sides[2][1:] + sides[0][:1]
                marks = (len(sides[0]) - 1, len(sides[0]) + len(sides[1]) - 2)
                if len(loop) > 40 or marks[0] < 1:
                    continue
                count += 1
                try:
                    points = Points(surface, loop, marks)
                except Undrawn:
                    continue
                self.assertLessEqual(points.rounds, 40)
                for _ in range(20):
                    self.check_course(chance, surface, loop, marks, points)
        self.assertLess(time.monotonic() - begun, 60)
