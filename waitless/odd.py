"""Odd papers: numbers for what is answered that show that no number of rounds is enough."""

from waitless.errors import BadPaper, TooMany
from waitless.judging import is_number, is_pair
from waitless.pairs import is_spotlike
from waitless.rows import hands_in, parts
from waitless.solving import Puzzle, solution
from waitless.tasks import ask_input, ask_task

FREE_MOST = 12


def is_odd_paper(task, thing):
    """Whether thing, of any value, is an odd paper of task."""
    ask_task(task)
    return makes_odd_paper(task, thing)


def odd_paper(task, row):
    """An odd paper of the input row, None if there is none."""
    ask_task(task)
    ask_input(task, row)
    let = numbers_let(task, row)
    if len([place for place in let if len(let[place]) > 1]) > FREE_MOST:
        raise TooMany(FREE_MOST)
    if len(row) == 1:
        return None
    numbers = solution(Puzzle(let, [(answer, numbers_short(row)) for answer in task.answers(row)]))
    if numbers is None:
        return None
    return (row, numbers)


def ask_odd_paper(task, paper):
    """BadPaper unless paper is an odd paper of task."""
    if not makes_odd_paper(task, paper):
        raise BadPaper("this is no odd paper of the task")


def makes_odd_paper(task, thing):
    """Whether thing is an odd paper."""
    if not is_pair(thing) or not task.has(thing[0]) or len(thing[0]) == 1:
        return False
    row, numbers = thing
    if not isinstance(numbers, dict) or not all([is_spotlike(key) for key in numbers]):
        return False
    let = numbers_let(task, row)
    if sorted(numbers) != list(let) or not all([is_number(number) for number in numbers.values()]):
        return False
    if not all([numbers[place] in let[place] for place in let]):
        return False
    return all([len(set([numbers[place] for place in answer])) < len(row) for answer in task.answers(row)])


def places_of(task, row):
    """The ascending list of the places of an input row."""
    return sorted(set([place for part in parts(row) for answer in task.answers(part) for place in answer]))


def numbers_let(task, row):
    """The dict from the places of row, ascending, to the hands of all parts of fewer hands with them in answers."""
    let = {place: list(hands_in(row)) for place in places_of(task, row)}
    for part in parts(row)[:-1]:
        hands = hands_in(part)
        for place in [place for answer in task.answers(part) for place in answer]:
            let[place] = [hand for hand in let[place] if hand in hands]
    return let


def numbers_short(row):
    """The list of the ways in which the hands of row get hands of row that are not all of them."""
    hands = hands_in(row)
    found = [()]
    for _ in hands:
        found = [numbers + (hand,) for numbers in found for hand in hands]
    return [numbers for numbers in found if len(set(numbers)) < len(hands)]
