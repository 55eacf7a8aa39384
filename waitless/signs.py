"""Signs: courses are counted by one and by minus one, and so are those that get all numbers."""

from waitless.asking import ask_hands, ask_rounds, ask_row
from waitless.blocks import all_blocks
from waitless.courses import ask_course, ask_few_rounds, ask_hand_of, views_behind
from waitless.errors import BadNumber
from waitless.judging import is_one_of
from waitless.pictures import ask_few_facets
from waitless.rows import hands_in, one_less


def sign(hands, course):
    """1 if the hands less the blocks, added over all rounds, come to an even number, otherwise -1."""
    ask_hands(hands)
    ask_course(hands, course)
    return sign_of(course)


def turn_of(row, course, number_of):
    """The turn of course: 0 unless its corners get all numbers."""
    ask_row(row)
    ask_course(hands_in(row), course)
    ask_few_rounds(course)
    return sign_of(course) * order_sign(hands_in(row), numbers_got(row, course, hands_in(row), number_of))


def inner_turns(row, rounds, number_of):
    """The sum of the turns of all courses of so many rounds."""
    ask_row(row)
    ask_rounds(rounds)
    ask_few_facets([row], rounds)
    hands = hands_in(row)
    total = 0
    for course in all_courses(hands, rounds):
        total += sign_of(course) * order_sign(hands, numbers_got(row, course, hands, number_of))
    return total


def rim_turns(row, rounds, number_of, hand):
    """The sum of the turns of all courses that lack one hand, which is counted as if it got the number hand."""
    ask_row(row)
    ask_rounds(rounds)
    hands = hands_in(row)
    ask_hand_of(hands, hand)
    ask_few_facets([row], rounds)
    if len(row) == 1:
        return 1
    total = 0
    for at, others in enumerate(one_less(row)):
        for course in all_courses(hands_in(others), rounds):
            numbers = numbers_got(others, course, hands, number_of)
            numbers[hands[at]] = hand
            total += sign_of(course) * order_sign(hands, numbers)
    return total


def sign_of(course):
    """The sign of course."""
    late = sum([len(block) - 1 for blocks in course for block in blocks])
    return 1 if late % 2 == 0 else -1


def order_sign(hands, numbers):
    """0 unless all hands have unlike numbers; 1 if an even number of pairs of them stand the other way round, or -1."""
    told = [numbers[hand] for hand in hands]
    if len(set(told)) < len(told):
        return 0
    turned = [1 for at, number in enumerate(told) for later in told[at + 1:] if number > later]
    return 1 if len(turned) % 2 == 0 else -1


def numbers_got(row, course, let, number_of):
    """The dict from the hands of row to the numbers of their corners; BadNumber unless each is one of let."""
    found = {}
    for hand, view in views_behind(row, course).items():
        number = number_of((hand, view))
        if not is_one_of(number, let):
            raise BadNumber((hand, view))
        found[hand] = number
    return found


def all_courses(hands, rounds):
    """The list of all courses of so many rounds."""
    rounds_of_blocks = all_blocks(hands)
    courses = [()]
    for _ in range(rounds):
        courses = [course + (blocks,) for course in courses for blocks in rounds_of_blocks]
    return courses
