"""What the tests share: odd values, checks of errors, and plain reckonings that are not the program's own."""

import itertools
import math
import unittest

from waitless.cells import Cells
from waitless.errors import HandError
from waitless.tasks import Task


def deep(depth):
    """A tuple in a tuple in a tuple .."""
    thing = ()
    for _ in range(depth):
        thing = (thing,)
    return thing


def deep_view(depth):
    """Pairs in pairs in pairs .."""
    thing = 0
    for _ in range(depth):
        thing = ((0, thing),)
    return thing


def loose():
    """A function, to be handed in where none is meant."""


TASK = Task(1, {((0, 0),): [((0, 0),)]})
CELLS = Cells(((0, 5), (1, 8)), 1)
HELD = []
HELD.append(HELD)

ODD = [
    None, True, False, 0, 1, 2, 3, 4, 5, 7, -1, 41, 10 ** 9, 10 ** 40, -10 ** 40, 0.0, 1.0, 1.5, float("nan"),
    float("inf"), 1j, "", "0", "01", "((0, 1),)", b"", b"\x00\x01", bytearray(b"ab"), [], [0], [0, 1], [(0, 1)],
    [[0, 1]], (), (0,), (1,), (0, 1), (1, 0), (0, 0), (True,), (0, True), (False, 1), (None,), ((),), ((), ()),
    ((0,),), ((0, 1),), ((0,), (1,)), ((1,), (0,)), ((0, 1), (2,)), ((True,),), ((0, 1, 2),), ((0, 1), (0, 2)),
    ((1, 1), (0, 1)), ((0, True),), ((False, 1),), ((0, -1),), ((0, 10 ** 9),), ((4, 1),), ((-1, 1),), ((0, 1.0),),
    ((0, "1"),), ([0, 1],), ((0, [1]),), ((0, {}),), ((0, None),), ((0, ()),), ((0, ((0, 1),)),), ((0, ((1, 1),)),),
    ((0, ((0, 1), (1, 2))), (1, ((1, 2),))), (((0,),),), (((0, 1),),), (((0,), (1,)),), ([[0, 1]],), (((0,), [1]),),
    {}, {0: 1}, {0: 0, 1: 1}, {True: 1}, {(): ()}, {"0": 0}, {0: ()}, {0: (0,), 1: (1,)}, set(), {0, 1},
    frozenset([0]), frozenset(), range(2), iter([0, 1]), loose, lambda *told: None, len, int, tuple, object(), object,
    TASK, CELLS, Task, Cells, HandError, HandError("odd"), NotImplemented, Ellipsis, deep(12), deep(50000),
    deep_view(3), deep_view(50000), (0, deep(50000)), ((0, deep_view(50000)),), HELD, (HELD,), ((0, HELD),),
    tuple(range(10 ** 5)), (((0, 1),) * 10 ** 5), "x" * 10 ** 5,
]


def kinds(thing):
    """A text of thing that tells True from 1 and lists from tuples."""
    return repr(thing)


def copied(thing):
    """A copy of lists, dicts and tuples, all the way down."""
    if isinstance(thing, list):
        return [copied(item) for item in thing]
    if isinstance(thing, tuple):
        return tuple(copied(item) for item in thing)
    if isinstance(thing, dict):
        return {copied(key): copied(thing[key]) for key in thing}
    return thing


PUT_IN = (True, False, None, 0, 1, 2, 3, 4, -1, 10 ** 9, "0", (), (0,), [], {}, 1.0, ((0, 1),))


def changes(thing):
    """Things that differ from thing, a tuple of tuples, in one place."""
    for other in PUT_IN:
        if kinds(other) != kinds(thing):
            yield other
    if isinstance(thing, tuple):
        yield list(thing)
        yield thing + thing[-1:]
        yield thing[:-1]
        yield thing[1:]
        yield thing[::-1]
        yield thing[:1] + thing
        for at, item in enumerate(thing):
            for other in changes(item):
                yield thing[:at] + (other,) + thing[at + 1:]


class Case(unittest.TestCase):
    """A test with checks of errors and of parameters."""

    def told(self, error, called, *told, **named):
        """called raises just this error, and what is handed in stays as it is."""
        try:
            called(*told, **named)
        except HandError as raised:
            self.assertIs(type(raised), error, f"{called.__name__} raised {type(raised).__name__}")
            return raised
        self.fail(f"{called.__name__} raised nothing in the place of {error.__name__}")

    def same(self, called, names, *told):
        """What called returns: equally by position and by name, twice, and with nothing changed."""
        names = names.split()
        self.assertEqual(len(names), len(told))
        before = copied(list(told))
        result = called(*told)
        self.assertEqual(kinds_of_result(called(**dict(zip(names, told)))), kinds_of_result(result))
        self.assertEqual(kinds_of_result(called(*told)), kinds_of_result(result))
        self.assertEqual(before, list(told))
        return result

    def wrong(self, called, right, *wrong):
        """Wrong parameters are told, the first one first; wrong has a pair (error, values) for each parameter."""
        self.assertEqual(len(right), len(wrong))
        for at, (error, values) in enumerate(wrong):
            for value in values:
                self.told(error, called, *right[:at], value, *right[at + 1:])
                for later in range(at + 1, len(right)):
                    for other in wrong[later][1][:3]:
                        told = list(right)
                        told[at] = value
                        told[later] = other
                        self.told(error, called, *told)

    def judged(self, judge, right):
        """judge(thing) is True just for what has the kinds of something in right; of odd values, and of changes."""
        let = {kinds(thing) for thing in right}
        for thing in right:
            self.assertIs(judge(thing), True, kinds(thing)[:300])
        for thing in ODD:
            found = judge(thing)
            self.assertIn(found, (True, False))
            if found:
                self.assertIn(kinds(thing), let)
        for thing in list(right)[:60]:
            for other in changes(thing):
                self.assertIs(judge(other), kinds(other) in let, kinds(other)[:300])


def kinds_of_result(thing):
    if isinstance(thing, Task):
        return kinds((thing.many, thing.table()))
    return kinds(thing)


NO_NUMBERS = [None, True, False, "1", 1.0, (1,), [1], {}]
NO_ROWS = [None, True, 0, "", (), [], [(0, 5)], ((0, True),), ((False, 5),), ((0, 5), (0, 6)), ((1, 5), (0, 5)),
           ((0, -1),), ((0, 10 ** 9),), ((4, 0),), ((-1, 0),), ((0,),), ((0, 5, 5),), ([0, 5],), ((0, "5"),), {0: 5},
           ((0, (5,)),), deep_view(50000), TASK]
NO_HANDS = [None, True, 0, (), [], [0], [0, 1], (1, 0), (0, 0), (0, 4), (-1,), (True,), (0, True), ("0",), ((0,),),
            {0: 1}, "01", (0, 1, 2, 3, 4), deep(50000)]
NO_HAND = NO_NUMBERS + [-1, 4, 10 ** 30]
NO_ROUNDS = NO_NUMBERS + [-1, 7, 10 ** 30]
NO_TASKS = [None, True, 0, {}, {((0, 0),): [((0, 0),)]}, CELLS, Task]
NO_CELLS = [None, True, 0, (), TASK, Cells]


def plain_blocks(hands):
    """All blocks of hands, by giving each hand a rank."""
    found = []
    for many in range(1, len(hands) + 1):
        for ranks in itertools.product(range(many), repeat=len(hands)):
            if set(ranks) == set(range(many)):
                found.append(tuple(tuple(h for h, rank in zip(hands, ranks) if rank == at) for at in range(many)))
    return found


def plain_sights(blocks):
    """Whom each hand sees, as a set."""
    return {hand: {other for block in blocks[:at + 1] for other in block}
            for at, block in enumerate(blocks) for hand in block}


def plain_end(row, course):
    """The views behind a course, told round by round."""
    views = dict(row)
    for blocks in course:
        sees = plain_sights(blocks)
        views = {hand: tuple(sorted((other, views[other]) for other in sees[hand])) for hand in sees}
    return {hand: views[hand] for hand in sorted(views)}


def plain_courses(hands, rounds):
    """All courses of so many rounds."""
    return list(itertools.product(plain_blocks(hands), repeat=rounds))


def plain_facets(row, rounds):
    """The ends of all courses, as tuples."""
    hands = tuple(hand for hand, _ in row)
    return [tuple(plain_end(row, course).items()) for course in plain_courses(hands, rounds)]


def plain_faces(row, rounds):
    """All faces of row: all parts of the ends of all courses."""
    return {part for facet in plain_facets(row, rounds) for part in plain_parts(facet)}


def plain_parts(pairs):
    """All tuples of one or more of pairs, in sequence."""
    return [part for size in range(1, len(pairs) + 1) for part in itertools.combinations(pairs, size)]


def plain_leaves(rounds, view):
    """The pairs of a hand and a value at the bottom of a tuple of pairs."""
    if rounds == 0:
        return set(view)
    return {pair for _, inner in view for pair in plain_leaves(rounds - 1, inner)}


def groups(hands):
    """All ascending tuples of one or more of hands."""
    return [group for size in range(1, len(hands) + 1) for group in itertools.combinations(hands, size)]


def fubini(number):
    """How many blocks there are, by the sum over how many blocks and which hands have which."""
    return sum((-1) ** (k - j) * math.comb(k, j) * j ** number for k in range(number + 1) for j in range(k + 1))
