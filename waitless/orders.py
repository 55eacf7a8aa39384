"""Orders: which weavings of puts and looks come by rounds."""

from waitless.asking import ask_many
from waitless.errors import BadCorner, BadLooks, BadWeaving, TooMany
from waitless.judging import is_from, is_number, is_pair
from waitless.looks import makes_whole
from waitless.rows import hands_in
from waitless.turned import ask_looks, known_behind_looks
from waitless.views import row_seen, stands_together

ROUNDS_OF_LOOKS_MOST = 40
VIEWED_MOST = 6


def course_for(many, weaving):
    """A course in which each hand has the looks that it has by a whole weaving, None if there is none."""
    ask_many(many)
    ask_whole(many, weaving)
    if len(weaving) // 2 > ROUNDS_OF_LOOKS_MOST:
        raise TooMany(ROUNDS_OF_LOOKS_MOST)
    if first_hold(many, weaving) is not None:
        return None
    return course_with_looks(many, weaving)


def hold(many, weaving):
    """A hold of a whole weaving, None if there is none."""
    ask_many(many)
    ask_whole(many, weaving)
    return first_hold(many, weaving)


def is_hold(many, weaving, thing):
    """Whether thing, of any value, is a hold of a whole weaving."""
    ask_many(many)
    ask_whole(many, weaving)
    if not is_pair(thing) or not is_from(thing[0], 0, len(weaving) - 1) or not is_number(thing[1]):
        return False
    at, hand = thing
    looking = are_looks(many, weaving)
    return looking[at] and hand in held_hands(many, weaving, looking, at)


def by_looks(answer, many, looks, corner):
    """What answer tells of a corner's hand and of what it knows behind its last look."""
    ask_many(many)
    ask_looks(looks)
    rounds = many * looks
    if rounds > VIEWED_MOST:
        raise BadLooks("looks come to at most 6 rounds here")
    if not is_corner(many, rounds, corner):
        raise BadCorner("this is no corner of the hands for so many rounds")
    hand, view = corner
    return answer(hand, known_behind_looks(many, hand, rounds, view, looks)[-1])


def ask_whole(many, weaving):
    """BadWeaving unless weaving is a whole one."""
    if not makes_whole(many, weaving):
        raise BadWeaving("a whole weaving has equally many puts and looks of each hand")


def is_corner(many, rounds, thing):
    """Whether thing is a corner for so many rounds in which only hands below many were seen."""
    return stands_together(rounds, (thing,)) and hands_in(row_seen(rounds, (thing,)))[-1] < many


def are_looks(many, weaving):
    """The list that tells of each step of weaving whether it is a look."""
    puts_next = [True for _ in range(many)]
    found = []
    for hand in weaving:
        found.append(not puts_next[hand])
        puts_next[hand] = not puts_next[hand]
    return found


def first_hold(many, weaving):
    """The first hold of weaving, None if there is none."""
    looking = are_looks(many, weaving)
    for at in range(len(weaving)):
        # Next to a look the stand is the same as at it.
        if looking[at] and not looking[at - 1]:
            held = held_hands(many, weaving, looking, at)
            if len(held) > 0:
                return (at, held[0])
    return None


def held_hands(many, weaving, looking, at):
    """The ascending list of the hands that make a hold with the stand that looks at the index at."""
    first = at
    while looking[first - 1]:
        first -= 1
    behind = at + 1
    while behind < len(weaving) and looking[behind]:
        behind += 1
    stand = weaving[first:behind]
    waiting = [hand for hand in range(many) if weaving[:first].count(hand) % 2 == 1 and hand not in stand]
    return [hand for hand in waiting if only_stand_puts(weaving, looking, stand, behind, hand)]


def only_stand_puts(weaving, looking, stand, behind, hand):
    """Whether from the index behind up to the next look of hand only hands of the stand put."""
    at = behind
    while weaving[at] != hand:
        if not looking[at] and weaving[at] not in stand:
            return False
        at += 1
    return True


def course_with_looks(many, weaving):
    """A course with the looks of a whole weaving that has no hold.

    Puts are counted through; by round r all hands know the first r puts. Each hand has a reach, the greatest put that
    it knows of. Who looks in a round stands ahead of all others and knows just these puts. Who does not look must know
    of a further one, so that whoever has no greater reach takes over the least one that is, of those who don't look:
    as there is no hold, this put comes ahead of its own look. All stand in the sequence of their reaches, so that
    nobody hears of a put that comes behind its next look.
    """
    puts, looks = puts_and_looks(many, weaving)
    last = len(weaving) // 2
    done = [0 for _ in range(many)]
    reaches = [puts[hand][0] for hand in range(many)]
    course = []
    for number in range(1, last + 1):
        looking = [hand for hand in range(many) if number in looks[hand]]
        further = min([last + 1] + [reaches[hand] for hand in range(many)
                                    if hand not in looking and reaches[hand] > number])
        for hand in range(many):
            if hand in looking:
                reaches[hand] = 0
            elif reaches[hand] <= number:
                reaches[hand] = further
        course.append(blocks_by(reaches))
        for hand in looking:
            done[hand] += 1
            reaches[hand] = (puts[hand] + [last + 1])[done[hand]]
    return tuple(course)


def puts_and_looks(many, weaving):
    """The lists with, for each hand, the numbers of its puts, and how many puts there were by its looks."""
    looking = are_looks(many, weaving)
    puts = [[] for _ in range(many)]
    looks = [[] for _ in range(many)]
    count = 0
    for hand, look in zip(weaving, looking):
        if look:
            looks[hand].append(count)
        else:
            count += 1
            puts[hand].append(count)
    return (puts, looks)


def blocks_by(reaches):
    """The blocks in which those with the same reach stand together, in the sequence of reaches."""
    hands = tuple(range(len(reaches)))
    found = []
    for reach in sorted(set(reaches)):
        found.append(tuple([hand for hand in hands if reaches[hand] == reach]))
    return tuple(found)
