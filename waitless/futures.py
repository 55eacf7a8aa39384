"""Futures: which courses can still come, and what bars the others."""

from waitless.blocks import all_blocks, seen_by
from waitless.cells import ask_cells, ask_round_number
from waitless.courses import makes_course
from waitless.errors import BadCourse
from waitless.judging import is_number
from waitless.rows import hands_in


def leading(cells, course):
    """A weaving of further steps by which all hands end all rounds by course, None if it can't come."""
    ask_cells(cells)
    ask_full_course(cells, course)
    if len(all_bars(cells, course)) > 0:
        return None
    run = cells.twin()
    weaving = []
    # No step in a round means anything for another one, so that the rounds may be ended one by one.
    for at in range(len(course)):
        hand = hand_to_step(run, course[at], at + 1)
        while hand is not None:
            run.step(hand)
            weaving.append(hand)
            hand = hand_to_step(run, course[at], at + 1)
    return tuple(weaving)


def blocks_to_come(cells, moment):
    """The ascending list of the blocks that a round has in the courses that can come."""
    ask_cells(cells)
    ask_round_number(cells, moment)
    hands = hands_in(cells.row)
    return [blocks for blocks in all_blocks(hands) if len(bars_of_round(cells, blocks, moment)) == 0]


def bar(cells, course):
    """A bar of course, None if there is none."""
    ask_cells(cells)
    ask_full_course(cells, course)
    found = all_bars(cells, course)
    if len(found) > 0:
        return found[0]
    return None


def is_bar(cells, course, thing):
    """Whether thing, of any value, is a bar of course."""
    ask_cells(cells)
    ask_full_course(cells, course)
    if not isinstance(thing, tuple) or not 3 <= len(thing) <= 4 or not isinstance(thing[0], str):
        return False
    # Only numbers and a string may be looked up: True would be found in the place of 1.
    return all([is_number(item) for item in thing[1:]]) and thing in all_bars(cells, course)


def ask_full_course(cells, course):
    """BadCourse unless course has all rounds of cells, and is one of their hands."""
    if not makes_course(hands_in(cells.row), course) or len(course) != cells.rounds:
        raise BadCourse("a course of all rounds and hands of the cells is asked for")


def hand_to_step(cells, blocks, number):
    """A hand whose next step in a round leaves its blocks unbarred, None if all have ended the round."""
    left = [hand for block in blocks for hand in block if cells.ended(hand) < number]
    for hand in left:
        trial = cells.twin()
        trial.step(hand)
        if len(bars_of_round(trial, blocks, number)) == 0:
            return hand
    return None


def all_bars(cells, course):
    """The list of all bars of course."""
    return [told for at in range(len(course)) for told in bars_of_round(cells, course[at], at + 1)]


def bars_of_round(cells, blocks, number):
    """The list of all bars that a round with these blocks has."""
    sees = seen_by(blocks)
    levels = {hand: level_now(cells, hand, number) for hand in sees}
    found = []
    for hand in sees:
        if cells.ended(hand) < number:
            reads = reads_now(cells, hand, number)
            found.extend(bars_below(number, hand, sees, levels, reads))
            if levels[hand] > len(sees[hand]):
                found.extend(bars_above(number, hand, sees, levels, reads))
        elif hands_in(cells.view(hand, number)) != sees[hand]:
            found.append(("seen", number, hand))
    return found


def level_now(cells, hand, number):
    """The level of hand in a round, above all others as long as its cell is empty."""
    level = cells.level(hand, number)
    if level is None:
        return cells.many + 1
    return level


def reads_now(cells, hand, number):
    """The dict from the hands whose cells hand has read since it wrote its level to the levels found."""
    # Before the first write of a round what was found is that of the round before.
    if cells.level(hand, number) is None:
        return {}
    pairs = cells.found(hand)
    reads = {}
    for whose, pair in zip(hands_in(cells.row), pairs):
        reads[whose] = cells.many + 1
        if pair is not None:
            reads[whose] = pair[1]
    return reads


def bars_below(number, hand, sees, levels, reads):
    """The bars of a hand that can't stop at as many hands as it must see."""
    size = len(sees[hand])
    if levels[hand] < size or (levels[hand] == size and len(reads) == len(sees)):
        low = [("low", number, hand)]
    else:
        low = []
    if levels[hand] != size:
        return low
    return low + [("missed", number, hand, other) for other in sees[hand] if reads.get(other, size) > size]


def bars_above(number, hand, sees, levels, reads):
    """The bars of a hand that must stop at more hands than it is to see."""
    found = []
    level = levels[hand]
    crowds = unlike_sights(sees)
    for crowd in crowds:
        # A hand that was not read yet counts by the level that it has now.
        if len(crowd) == level and all([reads.get(other, levels[other]) <= level for other in crowd]):
            found.append(("full", number, hand))
    for before, crowd in zip([()] + crowds, crowds):
        block = [other for other in crowd if other not in before]
        if len(sees[hand]) < len(crowd) < level and all([levels[other] <= len(crowd) for other in block]):
            found.append(("late", number, hand, len(crowd)))
    return found


def unlike_sights(sees):
    """The list of the unlike groups that are seen, shortest first."""
    groups = {sees[hand]: True for hand in sees}
    return sorted(groups, key=len)
