"""Puzzles: a value for each place, such that every bond lets them. Values are struck out, then tried."""

from waitless.errors import TooMany

WAYS_MOST = 4096


class Puzzle:
    """Places with the values let to them, and bonds: pairs of some places and the list of what they may have."""

    def __init__(self, let, bonds):
        self.let = {place: list(let[place]) for place in let}
        self.bonds = list(bonds)
        self.touching = {place: [] for place in let}
        for number, bond in enumerate(self.bonds):
            for place in bond[0]:
                self.touching[place].append(number)
        # Where there is but one value nothing is tried, so that those places need not be gone through.
        self.several = [place for place in let if len(let[place]) > 1]


class Board:
    """What is left to places, and all that it was before, so that it can be put back without copies."""

    def __init__(self, let):
        self.left = {place: list(let[place]) for place in let}
        self.log = []

    def leave(self, place, some):
        """Just some values are left to place."""
        self.log.append((place, self.left[place]))
        self.left[place] = some

    def strike(self, place, value):
        """Value is no longer left to place."""
        self.leave(place, [other for other in self.left[place] if other != value])

    def put_back(self, mark):
        """All is as it was when the log was no longer than mark."""
        while len(self.log) > mark:
            place, some = self.log.pop()
            self.left[place] = some


def ask_few_ways(groups):
    """TooMany(4096) if there are more ways than that to take one out of each of groups."""
    ways = 1
    for group in groups:
        ways = ways * len(group)
        if ways > WAYS_MOST:
            raise TooMany(WAYS_MOST)


def begun(puzzle):
    """The pair of a Board once all bonds are looked at, and the strikes that led there."""
    board = Board(puzzle.let)
    return (board, struck(puzzle, board, list(range(len(puzzle.bonds)))))


def tried(puzzle, board, place, value):
    """The strikes that follow on board if place has this value."""
    board.leave(place, [value])
    return struck(puzzle, board, puzzle.touching[place])


def struck(puzzle, board, numbers):
    """Strikes out on board what bonds don't let, begun with those of these numbers.

    The list of the strikes, (place, value, number of the bond), in sequence. It ends where a place has nothing left.
    """
    strikes = []
    waiting = numbers
    while len(waiting) > 0:
        following = {}
        for number in waiting:
            gone = lost(puzzle.bonds[number], board.left)
            for place, value in gone:
                board.strike(place, value)
                strikes.append((place, value, number))
                if len(board.left[place]) == 0:
                    return strikes
                for other in puzzle.touching[place]:
                    following[other] = True
        waiting = sorted(following)
    return strikes


def lost(bond, left):
    """The list of the pairs (place, value) that are left, but that a bond doesn't let beside what else is left."""
    places, rows = bond
    still = [{value: True for value in left[place]} for place in places]
    live = [row for row in rows if all([value in still[at] for at, value in enumerate(row)])]
    found = []
    for at, place in enumerate(places):
        held = {row[at]: True for row in live}
        found.extend([(place, value) for value in left[place] if value not in held])
    return found


def is_stuck(board, strikes):
    """Whether these strikes have left nothing to some place."""
    return len(strikes) > 0 and len(board.left[strikes[-1][0]]) == 0


def several_left(puzzle, board):
    """The list of the places with two or more values left."""
    return [place for place in puzzle.several if len(board.left[place]) > 1]


def unsettled(puzzle, board):
    """A place with the fewest values left, two or more; None if all have one."""
    found = several_left(puzzle, board)
    if len(found) == 0:
        return None
    return min(found, key=lambda place: len(board.left[place]))


def solution(puzzle):
    """The dict from the places to values that all bonds let, None if there is none."""
    board, strikes = begun(puzzle)
    if is_stuck(board, strikes):
        return None
    return solution_from(puzzle, board)


def solution_from(puzzle, board):
    """A solution in which each place has a value left to it, None if there is none."""
    place = unsettled(puzzle, board)
    if place is None:
        return {other: board.left[other][0] for other in board.left}
    mark = len(board.log)
    for value in list(board.left[place]):
        strikes = tried(puzzle, board, place, value)
        if not is_stuck(board, strikes):
            found = solution_from(puzzle, board)
            if found is not None:
                return found
        board.put_back(mark)
    return None


def solutions_many(puzzle):
    """How many solutions there are."""
    board, strikes = begun(puzzle)
    if is_stuck(board, strikes):
        return 0
    return solutions_from(puzzle, board)


def solutions_from(puzzle, board):
    """How many solutions there are in which each place has a value left to it."""
    places = several_left(puzzle, board)
    if len(places) == 0:
        return 1
    # What is left to a place has been let beside all that is settled, so that the last one need not be tried.
    if len(places) == 1:
        return len(board.left[places[0]])
    place = unsettled(puzzle, board)
    many = 0
    mark = len(board.log)
    for value in list(board.left[place]):
        strikes = tried(puzzle, board, place, value)
        if not is_stuck(board, strikes):
            many += solutions_from(puzzle, board)
        board.put_back(mark)
    return many
