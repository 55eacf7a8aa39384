"""Weavings: which steps make which courses."""

from waitless.asking import ask_hands
from waitless.cells import ask_cells, ask_round_number, Cells
from waitless.courses import ask_course, ask_few_rounds
from waitless.rows import hands_in


def course_of_run(cells):
    """A course by which each hand has the views of the rounds that it has ended."""
    ask_cells(cells)
    return tuple([blocks_of_round(cells, number) for number in range(1, cells.rounds + 1)])


def weaving_of(hands, course):
    """A weaving by which all hands end all rounds, with the views of course."""
    ask_hands(hands)
    ask_course(hands, course)
    ask_few_rounds(course)
    weaving = ()
    for blocks in course:
        seen_by_now = 0
        for block in blocks:
            seen_by_now += len(block)
            # All of a block go down side by side, and stop where they see just those ahead and themselves.
            weaving = weaving + (block + block * len(hands)) * (len(hands) - seen_by_now + 1)
    return weaving


def when(cells, moment):
    """The list of the blocks of a round with the step at which each is as if it came, None if some hand lacks."""
    ask_cells(cells)
    ask_round_number(cells, moment)
    if not all([cells.ended(hand) >= moment for hand in hands_in(cells.row)]):
        return None
    writes = first_writes(cells, moment)
    number = 0
    found = []
    for block in blocks_of_round(cells, moment):
        number = max([number] + [writes[hand] for hand in block])
        found.append((block, number))
    return found


def blocks_of_round(cells, number):
    """Blocks of a round that give the views of the hands that have ended it."""
    hands = hands_in(cells.row)
    groups = [hands_in(cells.view(hand, number)) for hand in hands if cells.ended(hand) >= number]
    blocks = ()
    known = ()
    # Nobody ends a round with the views of hands that have not ended it, so that these may come last.
    for group in sorted(groups, key=len) + [hands]:
        block = tuple([hand for hand in group if hand not in known])
        if len(block) > 0:
            blocks = blocks + (block,)
            known = group
    return blocks


def first_writes(cells, number):
    """The dict from the hands that have written in a round to the numbers of their first steps in it."""
    again = Cells(cells.row, cells.rounds)
    writes = {}
    count = 0
    for hand in cells.weaving():
        count += 1
        told = again.step(hand)
        if told[0] == "write" and told[1] == number:
            writes.setdefault(hand, count)
    return writes
