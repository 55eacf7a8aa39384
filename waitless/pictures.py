"""Pictures: what can stand at the ends of all courses of a row, and how courses hang together."""

from waitless.asking import ask_hands, ask_rounds, ask_row
from waitless.blocks import all_blocks, blocks_count, choose, facets_count
from waitless.courses import ask_course, COURSE_MOST, crossed, views_after
from waitless.errors import BadFace, BadHands, BadMany, BadSize, OtherCount, TooMany
from waitless.judging import is_from
from waitless.rows import hands_in, is_within
from waitless.views import row_seen, stands_together

FACETS_MOST = 6000
FACES_HANDS = 6


def corners(row, rounds):
    """The ascending list of the corners of row for so many rounds."""
    ask_row(row)
    ask_rounds(rounds)
    ask_few_facets([row], rounds)
    return corners_in(all_facets(row, rounds))


def facets(row, rounds):
    """The ascending list of the facets of row for so many rounds."""
    ask_row(row)
    ask_rounds(rounds)
    ask_few_facets([row], rounds)
    return sorted(all_facets(row, rounds))


def is_face(row, rounds, thing):
    """Whether thing, of any value, is a face of row for so many rounds."""
    ask_row(row)
    ask_rounds(rounds)
    return makes_face(row, rounds, thing)


def many_with(row, rounds, face):
    """How many facets of row have all corners of face."""
    ask_row(row)
    ask_rounds(rounds)
    if not makes_face(row, rounds, face):
        raise BadFace("this is no face of the row for so many rounds")
    count = 1
    for _ in range(rounds):
        count = count * ways_of_round(len(row), face)
        face = max([pair[1] for pair in face], key=len)
    return count


def faces_many(many, rounds, size):
    """How many faces with so many corners there are for a row of so many hands."""
    if not is_from(many, 1, FACES_HANDS):
        raise BadMany("there are from 1 to 6 hands")
    ask_rounds(rounds, COURSE_MOST)
    if not is_from(size, 1, many):
        raise BadSize("a face has from 1 to many corners")
    counts = [1 for _ in range(many + 1)]
    for _ in range(rounds):
        counts = [0] + [faces_behind(many, counts, hands) for hands in range(1, many + 1)]
    return choose(many, size) * counts[size]


def way_between(hands, course, other):
    """A shortest list of hands such that across with them, one after another, leads from course to other."""
    ask_hands(hands)
    ask_course(hands, course)
    ask_course(hands, other)
    if len(course) != len(other):
        raise OtherCount("the two courses have unlike numbers of rounds")
    if facets_count(len(hands), len(course)) > FACETS_MOST:
        raise TooMany(FACETS_MOST)
    return shortest_way(hands, course, other)


def line_place(hands, course):
    """The place of a course of two hands on the line on which across is a step."""
    ask_hands(hands)
    if len(hands) != 2:
        raise BadHands("a line has two hands")
    ask_course(hands, course)
    place = 0
    left, right = hands
    for blocks in course:
        place = 3 * place + [((left,), (right,)), (hands,), ((right,), (left,))].index(blocks)
        if blocks == (hands,):
            left, right = right, left
    return place


def ask_few_facets(rows, rounds):
    """TooMany(6000) if these rows have more facets than that together."""
    if sum([facets_count(len(row), rounds) for row in rows]) > FACETS_MOST:
        raise TooMany(FACETS_MOST)


def all_facets(row, rounds):
    """The list of the facets of row, in the sequence of the courses that they stand behind."""
    rounds_of_blocks = all_blocks(hands_in(row))
    ends = [{pair[0]: pair[1] for pair in row}]
    for _ in range(rounds):
        ends = [views_after(views, blocks) for views in ends for blocks in rounds_of_blocks]
    return [tuple(list(views.items())) for views in ends]


def corners_in(faces):
    """The ascending list of the unlike corners of faces."""
    found = []
    # Views may be too deep for keys, so that like ones are found side by side.
    for corner in sorted([corner for face in faces for corner in face]):
        if len(found) == 0 or found[-1] != corner:
            found.append(corner)
    return found


def makes_face(row, rounds, thing):
    """Whether thing is a face of row: whoever was not seen may come late, so that nothing else is asked."""
    return stands_together(rounds, thing) and is_within(row_seen(rounds, thing), row)


def ways_of_round(many, face):
    """In how many ways the blocks of the last round can be, so many hands being in all, if face ends it."""
    hands = hands_in(face)
    ways = 1
    known = ()
    for view in sorted([pair[1] for pair in face], key=len):
        fresh = [hand for hand in hands_in(view) if hand not in known and hand not in hands]
        ways = ways * ways_ahead(len(fresh))
        known = hands_in(view)
    return ways * blocks_count(many - len(known))


def ways_ahead(number):
    """In how many ways some of so many hands make blocks ahead of one that all others of them stand in."""
    return sum([choose(number, ahead) * blocks_count(ahead) for ahead in range(number + 1)])


def faces_behind(many, counts, size):
    """How many faces certain hands have behind one round more, counts telling how many they have without it."""
    total = 0
    for longest in range(size, many + 1):
        ways = sum([ways_to_see(size, blocks, longest) for blocks in range(1, size + 1)])
        total += choose(many - size, longest - size) * counts[longest] * ways
    return total


def ways_to_see(size, blocks, longest):
    """In how many ways so many hands stand in so many blocks and see so many hands in all."""
    ways = ways_to_stand(size, blocks)
    for _ in range(longest - size):
        ways = ways * blocks
    return ways


def ways_to_stand(size, blocks):
    """In how many ways so many hands make so many blocks."""
    if blocks == 0:
        return 1 if size == 0 else 0
    return sum([choose(size, first) * ways_to_stand(size - first, blocks - 1) for first in range(1, size + 1)])


def shortest_way(hands, course, other):
    """A shortest list of hands that across leads by from course to other."""
    ways = {course: ()}
    reached = [course]
    while other not in ways:
        further = []
        for one in reached:
            for hand in hands:
                following = crossed(one, hand)
                if following is not None and following not in ways:
                    ways[following] = ways[one] + (hand,)
                    further.append(following)
        reached = further
    return list(ways[other])
