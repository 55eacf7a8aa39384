"""Courses: rounds of blocks, one behind the other, and what hands end with."""

from waitless.asking import ask_hands, ask_rounds, ask_row, ROUNDS_MOST
from waitless.blocks import blocks_seeing, makes_blocks, seen_by
from waitless.errors import BadCourse, BadFading, BadHand, BadViews, TooMany
from waitless.judging import are_hands, are_hands_of, is_dict_from, is_one_of
from waitless.rows import hands_in, told_of
from waitless.views import stands_together

COURSE_MOST = 40


def is_course(hands, thing):
    """Whether thing, of any value, is a course of hands."""
    ask_hands(hands)
    return makes_course(hands, thing)


def end(row, course):
    """The dict from the hands of row to their views behind course."""
    ask_row(row)
    ask_course(hands_in(row), course)
    ask_few_rounds(course)
    return views_behind(row, course)


def course_of(row, rounds, views):
    """The only course of so many rounds that ends with such views from row, None if there is none."""
    ask_row(row)
    ask_rounds(rounds)
    hands = hands_in(row)
    if not is_dict_from(hands, views):
        raise BadViews("views are a dict from just the hands of the row")
    face = tuple([(hand, views[hand]) for hand in hands])
    if not stands_together(rounds, face):
        return None
    return course_seen(row, rounds, face)


def heard(hands, course, hand):
    """The ascending tuple of the hands whose values hand knows behind course."""
    ask_hands(hands)
    ask_course(hands, course)
    ask_hand_of(hands, hand)
    known = {one: (one,) for one in hands}
    for blocks in course:
        sees = seen_by(blocks)
        known = {one: all_in([known[other] for other in sees[one]]) for one in hands}
    return known[hand]


def across(hands, course, hand):
    """The other course behind which all hands but this one end alike, None if there is none."""
    ask_hands(hands)
    ask_course(hands, course)
    ask_hand_of(hands, hand)
    return crossed(course, hand)


def is_fading(hands, thing):
    """Whether thing, of any value, is a fading course of hands."""
    ask_hands(hands)
    return makes_fading(hands, thing)


def fading_end(row, fading):
    """The dict from the hands that did not stop to their views behind fading."""
    ask_row(row)
    ask_fading(hands_in(row), fading)
    ask_few_rounds(fading)
    return views_behind(row, fading)


def led_on(hands, fading):
    """The course of all hands in which those that have stopped stand alone behind the others."""
    ask_hands(hands)
    ask_fading(hands, fading)
    return tuple([with_late(hands, blocks) for blocks in fading])


def ask_course(hands, course):
    """BadCourse unless course is one of hands."""
    if not makes_course(hands, course):
        raise BadCourse("a course is a tuple of at most 40 blocks of the hands")


def ask_fading(hands, fading):
    """BadFading unless fading is a fading course of hands."""
    if not makes_fading(hands, fading):
        raise BadFading("a fading course is a tuple of at most 40 blocks of fewer and fewer hands")


def ask_few_rounds(course):
    """TooMany(6) if course has more rounds than views are told of."""
    if len(course) > ROUNDS_MOST:
        raise TooMany(ROUNDS_MOST)


def ask_hand_of(hands, hand):
    """BadHand unless hand is one of hands."""
    if not is_one_of(hand, hands):
        raise BadHand("the hand is none of the hands")


def makes_course(hands, thing):
    """Whether thing is a course of hands."""
    if not isinstance(thing, tuple) or len(thing) > COURSE_MOST:
        return False
    return all([makes_blocks(hands, blocks) for blocks in thing])


def makes_fading(hands, thing):
    """Whether thing is a fading course of hands."""
    if not isinstance(thing, tuple) or len(thing) > COURSE_MOST:
        return False
    left = hands
    for at in range(len(thing)):
        going = hands_going(thing[at])
        if not are_hands_of(left, going) or (at == 0 and going != hands):
            return False
        left = going
    return True


def hands_going(thing):
    """The ascending tuple of the hands in blocks, () if thing is no tuple of tuples of hands."""
    if not isinstance(thing, tuple) or not all([are_hands(block) for block in thing]):
        return ()
    return tuple(sorted([hand for block in thing for hand in block]))


def with_late(hands, blocks):
    """Blocks of all hands: those that are not in blocks stand alone behind them."""
    going = hands_going(blocks)
    return blocks + tuple([(hand,) for hand in hands if hand not in going])


def all_in(groups):
    """The ascending tuple of the hands that stand in any of groups."""
    return tuple(sorted(set([hand for group in groups for hand in group])))


def views_after(views, blocks):
    """The dict from the hands of blocks to their views behind a round, views being those ahead of it."""
    sees = seen_by(blocks)
    return {hand: tuple([(other, views[other]) for other in sees[hand]]) for hand in sees}


def views_behind(row, course):
    """The dict from the hands to their views behind course, begun with row."""
    views = {pair[0]: pair[1] for pair in row}
    for blocks in course:
        views = views_after(views, blocks)
    return views


def course_seen(row, rounds, face):
    """The course that ends with face, which is together; None if it does not begin with row."""
    course = ()
    for _ in range(rounds):
        blocks = blocks_seeing({pair[0]: hands_in(pair[1]) for pair in face})
        if blocks is None:
            return None
        course = (blocks,) + course
        face = tuple([(pair[0], told_of(pair[1], pair[0])) for pair in face])
    if face == row:
        return course
    return None


def crossed(course, hand):
    """What across tells, of a course in which hand stands."""
    for at in range(len(course) - 1, -1, -1):
        if course[at][-1] != (hand,):
            return course[:at] + (with_moved(course[at], hand),) + course[at + 1:]
    return None


def with_moved(blocks, hand):
    """Blocks in which hand has changed its place: it joins the next block, or leaves its own one."""
    at = [hand in block for block in blocks].index(True)
    if blocks[at] == (hand,):
        return blocks[:at] + (tuple(sorted(blocks[at + 1] + (hand,))),) + blocks[at + 2:]
    others = tuple([other for other in blocks[at] if other != hand])
    return blocks[:at] + ((hand,), others) + blocks[at + 1:]
