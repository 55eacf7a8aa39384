"""Points: loop tasks, and a program of points of a triangle that does those whose loop can be drawn together."""

from waitless.blocks import seen_by
from waitless.courses import makes_course
from waitless.drawing import are_all_one, ask_loop, do_push
from waitless.errors import BadCourse, BadMarks, BadPoint, BadRow, TooMany, Undrawn
from waitless.judging import is_from, is_number, is_pair, is_rowlike
from waitless.making import all_rows, rows_within, values_in
from waitless.rows import hands_in
from waitless.surfaces import ask_small, ask_surface, kind_of
from waitless.tasks import Task
from waitless.undrawing import told_of_loop

LOOP_MOST = 40
TASK_TRIANGLES_MOST = 16
CORNERS = 3
STRIDE = 64
# A round divides by 1, 3 or 5; so a point's shares stay whole if each round takes them fifteen times.
SHARES_TIMES = 15


def loop_task(surface, loop, marks):
    """The Task of three hands that answer on the sides of loop, and together with a spot."""
    ask_marked(surface, loop, marks)
    if len(surface.triangles) > TASK_TRIANGLES_MOST:
        raise TooMany(None)
    groups = {(0, 1, 2): list(surface.triangles)}
    for corner, side in enumerate(sides_of_loop(loop, marks)):
        groups[(corner,)] = [side[:1]]
        ends = tuple(sorted([corner, (corner + 1) % CORNERS]))
        groups[ends] = [side[at:at + 2] for at in range(len(side) - 1)]
    table = {}
    for row in all_rows(CORNERS, (0, 1, 2)):
        table[row] = rows_within(hands_in(row), groups[values_in(row)])
    return Task(CORNERS, table)


class Points:
    """Three hands that hold points of a triangle, and answer by where these lie behind so many rounds.

    A point's depth tells how many pushes are done to loop, and its direction seen from the middle, where on the loop
    it lies. A place has two slots in the loop's length, so that a push can be done in two steps: in each of them all
    behind it is moved by one slot, and any four slots that meet, of two neighbours in two steps, are a spot.
    """

    def __init__(self, surface, loop, marks):
        ask_marked(surface, loop, marks)
        pushes, paper = told_of_loop(surface, loop)
        if paper is not None:
            raise Undrawn(paper)
        sides = sides_of_loop(loop, marks)
        self._steps = max([len(side) - 1 for side in sides] + [longest_by(loop, pushes) // CORNERS])
        places, self._pushes = spread_out(sides, self._steps, pushes)
        self._layers = 2 * len(self._pushes) + 1
        # What the loop is behind every so many pushes.
        self._stops = stops_of(places, self._pushes)
        self.rounds = 0
        if not are_all_one(loop):
            self.rounds = rounds_for(max(20 * self._steps, 6 * self._layers))

    def answers(self, row, course):
        """The dict from the hands of row to what they answer behind course."""
        if not is_rowlike(row) or not all([max(pair) < CORNERS for pair in row]):
            raise BadRow("a row of hands 0, 1, 2 with inputs 0, 1, 2 is asked for")
        hands = hands_in(row)
        if not makes_course(hands, course) or len(course) != self.rounds:
            raise BadCourse("a course of just so many rounds of the row's hands is asked for")
        points = {hand: tuple([int(value == corner) for corner in range(CORNERS)]) for hand, value in row}
        for blocks in course:
            sees = seen_by(blocks)
            points = {hand: moved(points[hand], [points[other] for other in sees[hand]]) for hand in hands}
        return {hand: self._place_at(points[hand]) for hand in hands}

    def answer(self, point):
        """What is answered by who holds the point with these shares of the three corners."""
        if not isinstance(point, tuple) or len(point) != CORNERS:
            raise BadPoint("a point has three shares")
        if not all([is_number(share) and share >= 0 for share in point]) or sum(point) == 0:
            raise BadPoint("shares are numbers from 0 on, not all of them 0")
        return self._place_at(point)

    def _place_at(self, point):
        total = sum(point)
        depth = min(point)
        if 6 * depth >= total:
            return self._stops[0][0]
        # Behind the least share's corner lies the side, which is gone along from its first corner to its second one.
        far = point.index(depth)
        along = point[(far + 2) % CORNERS] - depth
        length = total - CORNERS * depth
        slots = 2 * self._steps
        slot = (far + 1) % CORNERS * slots + (2 * along * slots + length) // (2 * length)
        return self._place_in(6 * depth * self._layers // total, slot)

    def _place_in(self, layer, slot):
        """The place in a slot of the loop, half a push being done for each layer."""
        done = layer // 2
        places = list(self._stops[done // STRIDE])
        for push in self._pushes[done - done % STRIDE:done]:
            do_push(places, push)
        at = slot // 2
        if layer % 2 == 1:
            push = self._pushes[done]
            if push[0] == "in" and slot > 2 * push[1] + 2:
                at = (slot - 1) // 2
            elif push[0] == "out" and slot > 2 * push[1]:
                at = (slot + 1) // 2
        # Behind the last place, which is the first one, there is nothing else.
        return (places + places[:1])[min(at, len(places))]


def ask_marked(surface, loop, marks):
    """The errors that loop tasks and Points have alike."""
    ask_surface(surface)
    ask_loop(surface, loop)
    if not are_marks(loop, marks):
        raise BadMarks("marks are two indexes that part the loop into sides on which no place comes again")
    if kind_of(surface)[0] == 1:
        ask_small(surface)
    if len(loop) > LOOP_MOST:
        raise TooMany(None)


def are_marks(loop, thing):
    """Whether thing is two indexes of loop, such that on no side a place comes again behind another one."""
    if not is_pair(thing) or not is_from(thing[1], 2, len(loop) - 2) or not is_from(thing[0], 1, thing[1] - 1):
        return False
    return all([comes_once(side) for side in sides_of_loop(loop, thing)])


def sides_of_loop(loop, marks):
    """The list of the three sides of loop."""
    first, second = marks
    return [loop[:first + 1], loop[first:second + 1], loop[second:]]


def comes_once(side):
    """Whether no place of side comes again behind another one."""
    changes = [at for at in range(1, len(side)) if side[at] != side[at - 1]]
    return len(changes) + 1 == len(set(side))


def longest_by(loop, pushes):
    """How many places loop has at most while pushes are done."""
    length = len(loop)
    longest = length
    for push in pushes:
        if push[0] == "in":
            length += 1
        else:
            length -= 1
        longest = max(longest, length)
    return longest


def spread_out(sides, steps, pushes):
    """The pair of the list of places in which each side has so many steps, and of all pushes from it on.

    The corners at the ends of sides are said again and again; the first pushes take this back.
    """
    places = list(sides[0][:1])
    before = []
    at = 0
    for side in sides:
        spare = steps - (len(side) - 1)
        at += len(side) - 1
        places.extend(side[1:] + side[-1:] * spare)
        before.extend([("out", at)] * spare)
    return (places, before + pushes)


def stops_of(places, pushes):
    """The list of the tuples of places behind every so many pushes, begun with none."""
    places = list(places)
    stops = []
    for count, push in enumerate(pushes):
        if count % STRIDE == 0:
            stops.append(tuple(places))
        do_push(places, push)
    stops.append(tuple(places))
    return stops


def rounds_for(most):
    """The least number of rounds that make points that differ by the whole differ by less than this part of it."""
    # In a round two points come together to three fifths at least.
    rounds = 0
    near, whole = 1, 1
    while near * most >= whole:
        rounds += 1
        near, whole = 3 * near, 5 * whole
    return rounds


def moved(point, seen):
    """The point that a hand goes to that has this one and sees these, its own one too; taken fifteen times."""
    times = SHARES_TIMES // (2 * len(seen) - 1)
    return tuple([times * (2 * sum([other[at] for other in seen]) - point[at]) for at in range(CORNERS)])
