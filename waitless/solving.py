"""Puzzles: a value for each place, such that every bond lets them. Values are struck out, then tried."""

from waitless.errors import TooMany

WAYS_MOST = 4096


class Puzzle:
    """Places with the values let to them, and bonds: pairs of some places and the list of what they may have."""

    def __init__(self, let, bonds):
        self.let = {place: list(let[place]) for place in let}
        self.bonds = list(bonds)
        self.touching = {place: [] for place in let}
        for number, bond in enumerate(self.bonds):
            for place in bond[0]:
                self.touching[place].append(number)
        # Who has one value can never be tried, so that copies need not be searched for them.
        self.several = [place for place in let if len(let[place]) > 1]


def ask_few_ways(groups):
    """TooMany(4096) if there are more ways than that to take one out of each of groups."""
    ways = 1
    for group in groups:
        ways = ways * len(group)
        if ways > WAYS_MOST:
            raise TooMany(WAYS_MOST)


def begun(puzzle):
    """The pair of what is left to all places once all bonds are looked at, and the strikes that led there."""
    left = {place: puzzle.let[place] for place in puzzle.let}
    strikes = struck(puzzle, left, list(range(len(puzzle.bonds))))
    return (left, strikes)


def tried(puzzle, left, place, value):
    """The pair of what is left if place has this value, and the strikes that led there."""
    further = {other: left[other] for other in left}
    further[place] = [value]
    strikes = struck(puzzle, further, puzzle.touching[place])
    return (further, strikes)


def struck(puzzle, left, numbers):
    """Strikes out of left what bonds don't let, begun with those of these numbers.

    The list of the strikes, (place, value, number of the bond), in sequence. It ends where a place has nothing left.
    """
    strikes = []
    waiting = numbers
    while len(waiting) > 0:
        following = {}
        for number in waiting:
            gone = lost(puzzle.bonds[number], left)
            for place, value in gone:
                left[place] = [other for other in left[place] if other != value]
                strikes.append((place, value, number))
                if len(left[place]) == 0:
                    return strikes
                for other in puzzle.touching[place]:
                    following[other] = True
        waiting = sorted(following)
    return strikes


def lost(bond, left):
    """The list of the pairs (place, value) that are left, but that a bond doesn't let beside what else is left."""
    places, rows = bond
    still = [{value: True for value in left[place]} for place in places]
    live = [row for row in rows if all([value in still[at] for at, value in enumerate(row)])]
    found = []
    for at, place in enumerate(places):
        held = {row[at]: True for row in live}
        found.extend([(place, value) for value in left[place] if value not in held])
    return found


def is_stuck(left, strikes):
    """Whether these strikes have left nothing to some place."""
    return len(strikes) > 0 and len(left[strikes[-1][0]]) == 0


def unsettled(puzzle, left):
    """A place with the fewest values left, two or more; None if all have one."""
    found = [place for place in puzzle.several if len(left[place]) > 1]
    if len(found) == 0:
        return None
    return min(found, key=lambda place: len(left[place]))


def solution(puzzle):
    """The dict from the places to values that all bonds let, None if there is none."""
    left, strikes = begun(puzzle)
    if is_stuck(left, strikes):
        return None
    return solution_from(puzzle, left)


def solution_from(puzzle, left):
    """A solution in which each place has a value left to it, None if there is none."""
    place = unsettled(puzzle, left)
    if place is None:
        return {other: left[other][0] for other in left}
    for value in left[place]:
        further, strikes = tried(puzzle, left, place, value)
        if not is_stuck(further, strikes):
            found = solution_from(puzzle, further)
            if found is not None:
                return found
    return None


def solutions_many(puzzle):
    """How many solutions there are."""
    left, strikes = begun(puzzle)
    if is_stuck(left, strikes):
        return 0
    return solutions_from(puzzle, left)


def solutions_from(puzzle, left):
    """How many solutions there are in which each place has a value left to it."""
    place = unsettled(puzzle, left)
    if place is None:
        return 1
    many = 0
    for value in left[place]:
        further, strikes = tried(puzzle, left, place, value)
        if not is_stuck(further, strikes):
            many += solutions_from(puzzle, further)
    return many
