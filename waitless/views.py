"""Views: what hands have seen by the end of a round."""

from waitless.asking import ask_hand, ask_rounds
from waitless.errors import BadMoment, BadView
from waitless.judging import are_pairs, is_from, is_value
from waitless.rows import hands_in, is_within, told_of


def are_together(rounds, thing):
    """Whether so many rounds can end with thing, of any value, as the views of some hands."""
    ask_rounds(rounds)
    return stands_together(rounds, thing)


def is_view(hand, rounds, thing):
    """Whether thing, of any value, is a view of hand behind so many rounds."""
    ask_hand(hand)
    ask_rounds(rounds)
    return stands_together(rounds, ((hand, thing),))


def seen(hand, rounds, view):
    """The row of all values that hand has come to know by its view."""
    ask_hand(hand)
    ask_rounds(rounds)
    ask_view(hand, rounds, view)
    return row_seen(rounds, ((hand, view),))


def view_then(hand, rounds, view, moment):
    """The view that hand had at the end of the round of this moment."""
    ask_hand(hand)
    ask_rounds(rounds)
    ask_view(hand, rounds, view)
    if not is_from(moment, 0, rounds):
        raise BadMoment("a moment is a number from 0 to rounds")
    return earlier_view(hand, view, rounds - moment)


def ask_view(hand, rounds, view):
    """BadView unless view is one of hand behind so many rounds."""
    if not stands_together(rounds, ((hand, view),)):
        raise BadView("this is no view of the hand behind so many rounds")


def stands_together(rounds, thing):
    """Whether thing is together behind so many rounds, of any value."""
    if not is_built(rounds, thing):
        return False
    face = thing
    for _ in range(rounds):
        if not fits_one_round(face):
            return False
        # The longest view has all pairs of the others, so that it alone must fit in the round before.
        face = longest_view(face)
    return True


def is_built(rounds, thing):
    """Whether thing is pairs of hands and views, built as views of so many rounds down to the values."""
    # Behind this the views may be compared: they are no deeper than the rounds let, and hold numbers alone.
    if not are_pairs(thing):
        return False
    if rounds == 0:
        return all([is_value(pair[1]) for pair in thing])
    return all([is_built(rounds - 1, pair[1]) for pair in thing])


def fits_one_round(face):
    """Whether one round by blocks can give such views, what they hold left out of sight."""
    views = sorted([pair[1] for pair in face], key=len)
    if not all([is_within(views[at], views[at + 1]) for at in range(len(views) - 1)]):
        return False
    return all([sees_rightly(face, hand) for hand in hands_in(face)])


def sees_rightly(face, hand):
    """Whether hand sees itself, and all that those whom it sees have seen."""
    view = told_of(face, hand)
    known = hands_in(view)
    return hand in known and all([is_within(pair[1], view) for pair in face if pair[0] in known])


def longest_view(face):
    """The longest of the views of face, the first such one."""
    return max([pair[1] for pair in face], key=len)


def row_seen(rounds, face):
    """The row of all values that views together behind so many rounds have seen."""
    for _ in range(rounds):
        face = longest_view(face)
    return face


def earlier_view(hand, view, back):
    """The view of hand so many rounds back."""
    for _ in range(back):
        view = told_of(view, hand)
    return view


def views_by_round(hand, rounds, view):
    """The list with, for each round from 0 on, the dict from hands to the views that view tells of it."""
    known = {hand: view}
    found = [known]
    for _ in range(rounds):
        known = {pair[0]: pair[1] for other in known for pair in known[other]}
        found.append(known)
    return found[::-1]
