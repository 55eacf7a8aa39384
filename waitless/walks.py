"""Walks: from room to room, through courses that get nearly all numbers."""

from waitless.asking import ask_rounds, ask_row
from waitless.courses import crossed, makes_course, views_behind
from waitless.errors import BadCourse, BadFull, BadNumber, BadOrder
from waitless.judging import is_number, is_one_of
from waitless.rows import hands_in, part_with
from waitless.views import row_seen

# Doors are told by the hand that is left out; this one is to the room of one hand more.
UP = -1
NOWHERE = -2


def room_walk(row, rounds, number_of, order, course=None):
    """The list of rooms from the first one, or that of course, to the other end of the way that it is on."""
    ask_row(row)
    ask_rounds(rounds)
    ask_order(row, order)
    if course is None:
        room = first_room(order, rounds)
    else:
        room = (hands_in(row), course)
        ask_full(row, rounds, number_of, course)
    rooms = [room]
    came = NOWHERE
    following = room_behind(order, room, came, numbers_seen(row, rounds, number_of, room))
    while following is not None:
        room, came = following
        rooms.append(room)
        following = room_behind(order, room, came, numbers_seen(row, rounds, number_of, room))
    return rooms


def partner(row, rounds, number_of, order, course):
    """The course at the other end of the way of course, None if that is the first room."""
    ask_row(row)
    ask_rounds(rounds)
    ask_order(row, order)
    ask_full(row, rounds, number_of, course)
    hands, last = room_walk(row, rounds, number_of, order, course)[-1]
    if len(row) == 1 or len(hands) < len(row):
        return None
    return last


def ask_order(row, order):
    """BadOrder unless order is a tuple of the hands of row, each once."""
    if not isinstance(order, tuple) or not all([is_number(hand) for hand in order]):
        raise BadOrder("an order is a tuple of hands")
    if sorted(order) != list(hands_in(row)):
        raise BadOrder("an order has each of the row's hands once")


def ask_full(row, rounds, number_of, course):
    """BadCourse unless course is one of the row's hands of so many rounds, BadFull unless it gets all numbers."""
    if not makes_course(hands_in(row), course) or len(course) != rounds:
        raise BadCourse("a course of just so many rounds of the row's hands is asked for")
    numbers = numbers_seen(row, rounds, number_of, (hands_in(row), course))
    if sorted(numbers.values()) != list(hands_in(row)):
        raise BadFull("the course doesn't get all numbers")


def first_room(order, rounds):
    """The room of the first hand of order alone."""
    return ((order[0],), tuple([((order[0],),) for _ in range(rounds)]))


def numbers_seen(row, rounds, number_of, room):
    """The dict from the hands of a room to the numbers of their corners; BadNumber unless each has seen its number."""
    hands, course = room
    found = {}
    for hand, view in views_behind(part_with(row, hands), course).items():
        number = number_of((hand, view))
        if not is_one_of(number, hands_in(row_seen(rounds, ((hand, view),)))):
            raise BadNumber((hand, view))
        found[hand] = number
    return found


def room_behind(order, room, came, numbers):
    """The pair of the room behind the door by which one did not come, and the door by which one is then there.

    None if there is no such door; numbers are those of the room's corners.
    """
    hands, course = room
    doors = [door for door in doors_of(order, hands, numbers) if door != came]
    if len(doors) == 0:
        return None
    if doors[0] == UP:
        return room_above(order, room)
    following = crossed(course, doors[0])
    if following is not None:
        return ((hands, following), doors[0])
    return (room_without(room, doors[0]), UP)


def doors_of(order, hands, numbers):
    """The list of the doors of the room of these hands, whose corners have these numbers."""
    wanted = sorted(order[:len(hands) - 1])
    doors = []
    if len(hands) > 1:
        doors = [hand for hand in hands if sorted([numbers[other] for other in hands if other != hand]) == wanted]
    if sorted(numbers.values()) == sorted(order[:len(hands)]) and len(hands) < len(order):
        doors.append(UP)
    return doors


def room_above(order, room):
    """The pair of the room in which the next hand of order comes late, and the door by which one comes there."""
    hands, course = room
    late = order[len(hands)]
    return ((tuple(sorted(hands + (late,))), tuple([blocks + ((late,),) for blocks in course])), late)


def room_without(room, late):
    """The room in which a hand that stands alone in the last block of each round of room does not take part."""
    hands, course = room
    return (tuple([hand for hand in hands if hand != late]), tuple([blocks[:-1] for blocks in course]))
