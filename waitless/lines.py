"""Lines: by rounds two hands come to places side by side on a line, and answer along a walk."""

from waitless.asking import ask_hand, ask_rounds
from waitless.choosing import makes_choice, ties_let
from waitless.courses import ask_course, COURSE_MOST, makes_course
from waitless.errors import BadChoice, BadCourse, BadHands, BadInput, BadPlace, BadPosition, TooMany
from waitless.judging import are_hands, is_from
from waitless.pairs import ask_slim, pair_inputs, shortest_walk, web_of
from waitless.pictures import ask_few_facets, FACETS_MOST
from waitless.rows import hands_in, told_of
from waitless.tables import TABLE_ROUNDS_MOST, task_corners
from waitless.tasks import ask_input
from waitless.views import row_seen


class Line:
    """What hands answer by their positions: walks between what a choice has, as long as the rounds let."""

    def __init__(self, task, rounds, choice):
        ask_slim(task)
        ask_rounds(rounds, COURSE_MOST)
        if not makes_choice(task, rounds, choice):
            raise BadChoice("this is no choice of the task for so many rounds")
        self.rounds = rounds
        self.choice = {spot: choice[spot] for spot in choice}
        self._task = task
        self._walks = {}
        for row in pair_inputs(task):
            one, other = [(spot[0], choice[spot]) for spot in row]
            self._walks[row] = shortest_walk(web_of(task, row), one, other)

    def answer(self, hand, seen, position):
        """What hand answers that has seen these inputs and has this position."""
        ask_hand(hand)
        if not self._task.has(seen) or hand not in hands_in(seen):
            raise BadInput("an input with the hand is asked for")
        last = ties_let(self.rounds)
        if not is_position(seen, hand, position, last):
            raise BadPosition("this is no position of a hand that has seen these inputs")
        if len(seen) == 1:
            return self.choice[seen[0]]
        return answer_on(self._walks[seen], position)

    def answers(self, row, course):
        """The row of what the hands of the input row answer behind course."""
        ask_input(self._task, row)
        hands = hands_in(row)
        if not makes_course(hands, course) or len(course) != self.rounds:
            raise BadCourse("a course of just so many rounds of the row's hands is asked for")
        if len(row) == 1:
            return ((hands[0], self.choice[row[0]]),)
        places = positions_behind(hands, course)
        return tuple([(hand, answer_on(self._walks[row], places[hand])) for hand in hands])

    def table(self):
        """The dict from all corners of the task to what is answered there."""
        if self.rounds > TABLE_ROUNDS_MOST:
            raise TooMany(FACETS_MOST)
        ask_few_facets(self._task.inputs(), self.rounds)
        return {corner: self._told(corner) for corner in task_corners(self._task, self.rounds)}

    def _told(self, corner):
        seen = row_seen(self.rounds, (corner,))
        return self.answer(corner[0], seen, position_seen(hands_in(seen), self.rounds, corner))


def positions(hands, course):
    """The dict from two hands to their positions behind course."""
    ask_two_hands(hands)
    ask_course(hands, course)
    return positions_behind(hands, course)


def course_at(hands, rounds, place):
    """The course of so many rounds behind which the positions are place and the next one."""
    ask_two_hands(hands)
    ask_rounds(rounds, COURSE_MOST)
    if not is_from(place, 0, ties_let(rounds) - 1):
        raise BadPlace("a place is a number from 0 on, below 3 to the power of the rounds")
    # The lower hand is at the even one of the two.
    low = place + place % 2
    high = place + 1 - place % 2
    course = ()
    for _ in range(rounds):
        blocks, low, high = round_back(hands, low, high)
        course = (blocks,) + course
    return course


def ask_two_hands(hands):
    """BadHands unless hands is an ascending tuple of two hands."""
    if not are_hands(hands) or len(hands) != 2:
        raise BadHands("an ascending tuple of two hands is asked for")


def is_position(seen, hand, position, last):
    """Whether position, of any value, is one that hand may have that has seen these inputs; last is the last one."""
    if not is_from(position, 0, last):
        return False
    if len(seen) == 1:
        return position in (0, last)
    return position % 2 == hands_in(seen).index(hand)


def answer_on(places, position):
    """The number of the place at this position of a walk that goes on to and fro along its last tie."""
    last = len(places) - 1
    if position > last:
        position = last - (position - last) % 2
    return places[position][1]


def positions_behind(hands, course):
    """The dict from two hands to their positions behind course."""
    low, high = 0, 1
    for blocks in course:
        # Who is alone in the first block has seen nobody else.
        if blocks[0] == (hands[0],):
            low, high = 3 * low, high + 2 * low
        elif blocks[0] == (hands[1],):
            low, high = low + 2 * high, 3 * high
        else:
            low, high = low + 2 * high, high + 2 * low
    return {hands[0]: low, hands[1]: high}


def round_back(hands, low, high):
    """The triple of the blocks of the last round, and the positions ahead of it, of two hands at these positions."""
    if low % 3 == 0:
        return (((hands[0],), (hands[1],)), low // 3, high - 2 * (low // 3))
    if high % 3 == 0:
        return (((hands[1],), (hands[0],)), low - 2 * (high // 3), high // 3)
    # Both saw both: the sum was a third of what it is, the difference has turned round.
    total = (low + high) // 3
    return ((hands,), (total + low - high) // 2 + high - low, (total + low - high) // 2)


def position_seen(hands, rounds, corner):
    """The position of a corner's hand, hands being all that it has seen."""
    hand, view = corner
    if rounds == 0:
        return hands.index(hand)
    own = position_seen(hands, rounds - 1, (hand, told_of(view, hand)))
    if len(view) == 1:
        return 3 * own
    other = [pair for pair in view if pair[0] != hand][0]
    return own + 2 * position_seen(hands, rounds - 1, other)
