"""Refutations: papers that show that no table does a task in so many rounds."""

from waitless.asking import ask_answer, ask_rounds
from waitless.courses import course_seen
from waitless.errors import NoRefutation
from waitless.judging import is_number
from waitless.pictures import all_facets, ask_few_facets, makes_face
from waitless.rows import hands_in, told_of
from waitless.solving import ask_few_ways, begun, Board, is_stuck, Puzzle, solution, solutions_many, tried, unsettled
from waitless.tables import choices, TABLE_ROUNDS_MOST, task_corners, values_answered
from waitless.tasks import ask_task
from waitless.views import is_built, row_seen


def table(task, rounds):
    """A table of task for so many rounds, None if there is none."""
    return solution(small_puzzle(task, rounds))


def tables_many(task, rounds):
    """How many tables task has for so many rounds."""
    return solutions_many(small_puzzle(task, rounds))


def refutation(task, rounds):
    """A refutation of task for so many rounds, None if there is a table."""
    puzzle = small_puzzle(task, rounds)
    board, strikes = begun(puzzle)
    return paper_from(puzzle, rounds, board, strikes)


def is_refutation(task, rounds, thing):
    """Whether thing, of any value, is a refutation of task for so many rounds."""
    return refutes(task, rounds, choices(task, rounds), thing)


def shown_wrong(task, rounds, paper, answer):
    """A triple (row, course, told): what is told behind a course by answer, and is no answer to row."""
    let = choices(task, rounds)
    if not refutes(task, rounds, let, paper):
        raise NoRefutation("this is no refutation of the task for so many rounds")
    facet = facet_walked_to(rounds, paper, answer)
    # A number that isn't even a choice may stand in answers to the row, but in none to what the hand has seen.
    strange = [corner for corner in facet if ask_answer(answer, corner) not in let[corner]]
    if len(strange) > 0:
        facet = facet_with(rounds, strange[0])
    row = row_seen(rounds, facet)
    told = tuple([(corner[0], ask_answer(answer, corner)) for corner in facet])
    return (row, course_seen(row, rounds, facet), told)


def small_puzzle(task, rounds):
    """The Puzzle of tables; TooMany(4096) if the choices of all corners, multiplied, come to more."""
    ask_task(task)
    ask_rounds(rounds, TABLE_ROUNDS_MOST)
    ask_few_facets(task.inputs(), rounds)
    puzzle = table_puzzle(task, rounds)
    ask_few_ways(list(puzzle.let.values()))
    return puzzle


def table_puzzle(task, rounds):
    """The Puzzle whose solutions are the tables of task."""
    bonds = []
    values = {row: values_answered(task, row) for row in task.inputs()}
    for row in task.inputs():
        answers = [tuple([pair[1] for pair in answer]) for answer in task.answers(row)]
        bonds.extend([(facet, answers) for facet in all_facets(row, rounds)])
    let = {}
    for corner in task_corners(task, rounds):
        let[corner] = values[row_seen(rounds, (corner,))][corner[0]]
    return Puzzle(let, bonds)


def paper_from(puzzle, rounds, board, strikes):
    """A paper that begins with these strikes, which are done on board; None if there is a table."""
    told = tuple([strike_told(puzzle, rounds, strike) for strike in strikes])
    if is_stuck(board, strikes):
        return (told, strikes[-1][0], {})
    corner = unsettled(puzzle, board)
    if corner is None:
        return None
    papers = {}
    mark = len(board.log)
    for value in list(board.left[corner]):
        paper = paper_from(puzzle, rounds, board, tried(puzzle, board, corner, value))
        if paper is None:
            return None
        papers[value] = paper
        board.put_back(mark)
    return (told, corner, papers)


def strike_told(puzzle, rounds, strike):
    """The strike of a paper that a strike of the puzzle is."""
    corner, value, number = strike
    facet = puzzle.bonds[number][0]
    return (corner, value, row_seen(rounds, facet), facet)


def refutes(task, rounds, let, thing):
    """Whether thing is a refutation, let being the choices of all corners."""
    board = Board(let)
    # Papers may stand in papers so deep that functions can't follow by calling themselves.
    waiting = [(thing, 0, None, None)]
    while len(waiting) > 0:
        paper, mark, tried_at, value = waiting.pop()
        board.put_back(mark)
        if tried_at is not None:
            board.leave(tried_at, [value])
        if not is_paper_right(task, rounds, board, paper):
            return False
        corner, papers = paper[1:]
        for following in papers:
            waiting.append((papers[following], len(board.log), corner, following))
    return True


def is_paper_right(task, rounds, board, thing):
    """Whether thing is a paper, the papers in it aside; what its strikes take away is taken away on board."""
    if not isinstance(thing, tuple) or len(thing) != 3 or not isinstance(thing[0], tuple):
        return False
    strikes, corner, papers = thing
    for strike in strikes:
        if not is_strike_right(task, rounds, board.left, strike):
            return False
        board.strike(strike[0], strike[1])
    if not is_built(rounds, (corner,)) or corner not in board.left or not isinstance(papers, dict):
        return False
    if not all([is_number(value) for value in papers]):
        return False
    return len(papers) != 1 and sorted(papers) == board.left[corner]


def is_strike_right(task, rounds, left, thing):
    """Whether thing is a right strike, of any value."""
    if not isinstance(thing, tuple) or len(thing) != 4:
        return False
    corner, value, row, facet = thing
    if not is_built(rounds, (corner,)) or not is_number(value):
        return False
    if not task.has(row) or not makes_face(row, rounds, facet) or hands_in(facet) != hands_in(row):
        return False
    if corner not in facet or value not in left[corner]:
        return False
    others = [other for other in facet if other != corner]
    for answer in task.answers(row):
        if told_of(answer, corner[0]) == value and all([told_of(answer, one[0]) in left[one] for one in others]):
            return False
    return True


def facet_walked_to(rounds, paper, answer):
    """The facet of the first strike of what is answered; if there is none, one where the paper ends."""
    strikes, corner, papers = paper
    facet = facet_struck(strikes, answer)
    while facet is None:
        value = ask_answer(answer, corner)
        if value not in papers:
            return facet_with(rounds, corner)
        strikes, corner, papers = papers[value]
        facet = facet_struck(strikes, answer)
    return facet


def facet_struck(strikes, answer):
    """The facet of the first of strikes that takes away just what is answered, None if there is none."""
    for corner, value, _, facet in strikes:
        if ask_answer(answer, corner) == value:
            return facet
    return None


def facet_with(rounds, corner):
    """A facet with this corner, all hands of which the corner's hand has seen."""
    return [facet for facet in all_facets(row_seen(rounds, (corner,)), rounds) if corner in facet][0]
