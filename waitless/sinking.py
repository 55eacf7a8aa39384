"""Sinking: triangles of corners with a sum that isn't nothing, cut smaller and smaller down to a fall."""

from waitless.asking import ask_answer, ask_rounds
from waitless.blocks import all_blocks, seen_by
from waitless.courses import views_after, views_behind
from waitless.errors import BadPapers
from waitless.falls import answered_behind
from waitless.lines import course_at
from waitless.papers import makes_all_rounds
from waitless.pictures import ask_few_facets
from waitless.rows import hands_in, part_with, parts
from waitless.signs import all_courses, sign_of
from waitless.weights import ask_three, sides_of, step_weight

SIDE_SIGNS = (1, 1, -1)


def sink(task, row, papers, rounds, answer):
    """A fall of what answer tells behind so many rounds, papers being one of each choice, none filled."""
    ask_three(task, row)
    if not makes_all_rounds(task, row, papers):
        raise BadPapers("papers are a dict from all choices to papers, none of them filled")
    ask_rounds(rounds)
    fall = rim_fall(task, row, rounds, answer)
    if fall is not None:
        return fall
    alone = [answered_behind(answer, (pair,), lone_course(pair[0], rounds))[0][1] for pair in row]
    # Where all sides are answered rightly they are ways, so that the paper of this choice tells weights.
    modulus, weights = papers[tuple(alone)][1:]
    course = ()
    while len(course) < rounds:
        course = course + cut(row, course, rounds, answer, modulus, weights)
    return (row, course, answered_behind(answer, row, course))


def filling(task, row, rounds, answer):
    """A fall of row or of a part of it; if there is none, the filled paper that what is answered makes."""
    ask_three(task, row)
    ask_rounds(rounds)
    ask_few_facets([row], rounds)
    counts = {}
    for part in parts(row):
        let = {told: True for told in task.answers(part)}
        for course in all_courses(hands_in(part), rounds):
            told = answered_behind(answer, part, course)
            if told not in let:
                return (part, course, told)
            if part == row:
                counts[told] = counts.get(told, 0) + sign_of(course)
    ways = []
    for side in sides_of(row):
        one, other = part_with(row, side)
        ways.append(tuple(places_along(answer, one, other, rounds)))
    return ("filled", tuple(ways), {told: counts[told] for told in sorted(counts) if counts[told] != 0})


def lone_course(hand, rounds):
    """The course of a hand that nobody else takes part beside."""
    return tuple([((hand,),) for _ in range(rounds)])


def rim_fall(task, row, rounds, answer):
    """A fall of a hand of row alone or of two of them, None if there is none."""
    for pair in row:
        told = answered_behind(answer, (pair,), lone_course(pair[0], rounds))
        if told not in task.answers((pair,)):
            return ((pair,), lone_course(pair[0], rounds), told)
    for side in sides_of(row):
        part = part_with(row, side)
        places = places_along(answer, part[0], part[1], rounds)
        at = gap_in(places, {told: True for told in task.answers(part)})
        if at is not None:
            return (part, course_at(side, rounds, at), tie_at(places, at))
    return None


def cut(row, course, rounds, answer, modulus, weights):
    """Further blocks of course: one round in which the sum is not nothing, or all, to two corners that are no tie."""
    hands = hands_in(row)
    views = views_behind(row, course)
    left = rounds - len(course) - 1
    told = {}
    for blocks in all_blocks(hands):
        sees = seen_by(blocks)
        further = views_after(views, blocks)
        total = 0
        for side, times in zip(sides_of(row), SIDE_SIGNS):
            low, high = side
            key = (low, sees[low], high, sees[high])
            if key not in told:
                told[key] = places_along(answer, (low, further[low]), (high, further[high]), left)
            at = gap_in(told[key], weights)
            if at is not None:
                late = [hand for hand in hands if hand not in side][0]
                return (blocks,) + tuple([some + ((late,),) for some in course_at(side, left, at)])
            total += times * sum_along(told[key], weights)
        # The sums of all thirteen add up to that of the course, so that one of them is not nothing, too.
        if total % modulus != 0:
            return (blocks,)


def places_along(answer, one, other, rounds):
    """The list of the places answered at the corners from one to the other, two hands going on so many rounds."""
    return [(corner[0], ask_answer(answer, corner)) for corner in corners_along(one, other, rounds)]


def corners_along(one, other, rounds):
    """The list of the corners that two hands have behind so many rounds more, from one alone to the other alone."""
    if rounds == 0:
        return [one, other]
    both = (one, other)
    if one[0] > other[0]:
        both = (other, one)
    points = [(one[0], (one,)), (other[0], both), (one[0], both), (other[0], (other,))]
    found = corners_along(points[0], points[1], rounds - 1)
    for at in (1, 2):
        # Each piece begins where the one ahead of it ends.
        found.extend(corners_along(points[at], points[at + 1], rounds - 1)[1:])
    return found


def tie_at(places, at):
    """The row of a place, by its number, and the next one."""
    return tuple(sorted(places[at:at + 2]))


def gap_in(places, let):
    """The number of the first place that makes with the next one no tie that is let, None if all do."""
    for at in range(len(places) - 1):
        if tie_at(places, at) not in let:
            return at
    return None


def sum_along(places, weights):
    """The sum of the weights of the ties along places."""
    return sum([step_weight(weights, places[at], places[at + 1]) for at in range(len(places) - 1)])
