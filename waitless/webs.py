"""Webs: places answered that stand close on a web, in as few rounds as can be."""

from waitless.asking import ask_many, ask_rounds
from waitless.between import rounds_between, steps_between
from waitless.errors import BadCorner, BadPlaces, BadTies, NotEnough
from waitless.judging import is_from
from waitless.lines import position_seen
from waitless.making import are_ties
from waitless.nearness import is_corner_up_to, led_to_middle
from waitless.rows import hands_in
from waitless.views import row_seen

PLACES_MOST = 60
RING_LEAST = 3


class TiedPlaces:
    """Places and their ties, and how many ties the shortest ways between them have."""

    def __init__(self, places, ties):
        self.places = places
        self.ties = ties
        self.tied = {place: [] for place in range(places)}
        for one, other in ties:
            self.tied[one].append(other)
            self.tied[other].append(one)
        self._away = {}

    def away(self, place):
        """The dict from the places that ties lead to from place to how many ties the shortest ways have."""
        # Most answers ask for a few places alone.
        if place not in self._away:
            self._away[place] = ties_away(self.tied, place)
        return self._away[place]

    def hangs(self):
        """Whether the web hangs together."""
        return len(self.away(0)) == self.places

    def width(self):
        """The greatest number of ties that a shortest way has; the web hangs together."""
        one, other = self.farthest(list(range(self.places)))
        return self.away(one)[other]

    def farthest(self, places):
        """The first pair of those of places, all of one piece, that are as far apart as can be."""
        best = (places[0], places[0])
        for one in places:
            for other in places:
                if self.away(one)[other] > self.away(best[0])[best[1]]:
                    best = (one, other)
        return best

    def on_the_way(self, one, other, steps):
        """The place so many ties behind one on a shortest way to other; other itself if it is nearer."""
        away = self.away(other)
        for _ in range(min(steps, away[one])):
            one = [place for place in self.tied[one] if away[place] < away[one]][0]
        return one

    def middle(self, places):
        """The middle of some places of a tree, the lesser one of two."""
        one, other = self.farthest(sorted(places))
        length = self.away(one)[other]
        return min(self.on_the_way(one, other, length // 2), self.on_the_way(one, other, length - length // 2))


def web_rounds(many, places, ties):
    """The least number of rounds in which on_web can be done, None if no number is enough."""
    return rounds_on(many, asked_web(many, places, ties))


def web_answer(many, places, ties, rounds, corner):
    """A place to answer at corner, so that all answers are let."""
    web = asked_web(many, places, ties)
    ask_rounds(rounds)
    if not are_enough(many, web, rounds):
        raise NotEnough("so many rounds are not enough on this web")
    if not is_corner_up_to(many, places - 1, rounds, corner):
        raise BadCorner("this is no corner of the hands and places for so many rounds")
    if many != 2:
        return led_to_middle(rounds, corner[1], web.middle)
    seen = row_seen(rounds, (corner,))
    if len(seen) == 1:
        return seen[0][1]
    return web.on_the_way(seen[0][1], seen[1][1], position_seen(hands_in(seen), rounds, corner))


def web_paper(many, places, ties):
    """A web paper, None if some number of rounds is enough."""
    return paper_of(many, asked_web(many, places, ties))


def is_web_paper(many, places, ties, thing):
    """Whether thing, of any value, is a web paper."""
    web = asked_web(many, places, ties)
    if not isinstance(thing, tuple) or len(thing) == 0 or not isinstance(thing[0], str):
        return False
    if thing[0] == "apart" and len(thing) == 3 and many > 1:
        if not all([is_from(place, 0, places - 1) for place in thing[1:]]):
            return False
        return thing[2] not in web.away(thing[1])
    return thing[0] == "ring" and len(thing) == 2 and many > 2 and is_ring(web, thing[1])


def asked_web(many, places, ties):
    """The TiedPlaces of a web; BadMany, BadPlaces, BadTies."""
    ask_many(many)
    if not is_from(places, 1, PLACES_MOST):
        raise BadPlaces("places is a number from 1 to 60")
    if not are_ties(places, ties):
        raise BadTies("ties are an ascending tuple of unlike pairs of places, the lower one first")
    return TiedPlaces(places, ties)


def ties_away(beside, place):
    """The dict from the places that ties lead to from place to how many ties the shortest ways have."""
    away = {place: 0}
    reached = [place]
    while len(reached) > 0 and len(away) < len(beside):
        further = []
        for one in reached:
            for other in beside[one]:
                if other not in away:
                    away[other] = away[one] + 1
                    further.append(other)
        reached = further
    return away


def paper_of(many, web):
    """What web_paper tells."""
    if many > 1 and not web.hangs():
        return ("apart", 0, min([place for place in range(web.places) if place not in web.away(0)]))
    # A web that hangs together has no ring with one tie less than places alone.
    if many > 2 and len(web.ties) >= web.places:
        return ("ring", ring_on(web))
    return None


def rounds_on(many, web):
    """What web_rounds tells."""
    if many == 1:
        return 0
    if paper_of(many, web) is not None:
        return None
    return rounds_between(many, web.width())


def are_enough(many, web, rounds):
    """Whether so many rounds are enough on a web."""
    if many == 1 or paper_of(many, web) is not None:
        return many == 1
    steps = steps_between(many, rounds)
    # No two places are farther apart than twice as far as one of them all lies from some place.
    reach = max(list(web.away(0).values()))
    return 2 * reach <= steps or (reach <= steps and web.width() <= steps)


def ring_on(web):
    """The tuple of the places of a ring of a web that has one."""
    for one, other in web.ties:
        # A way from end to end of a tie that does without it makes a ring with it.
        tied = {place: list(web.tied[place]) for place in web.tied}
        tied[one].remove(other)
        tied[other].remove(one)
        away = ties_away(tied, other)
        if one in away:
            ring = [one]
            while ring[-1] != other:
                ring.append([place for place in tied[ring[-1]] if away[place] < away[ring[-1]]][0])
            return tuple(ring)
    return None


def is_ring(web, thing):
    """Whether thing is a tuple of three or more unlike places, each tied to the one ahead, the first to the last."""
    if not isinstance(thing, tuple) or not RING_LEAST <= len(thing) <= web.places:
        return False
    if not all([is_from(place, 0, web.places - 1) for place in thing]) or len(set(thing)) != len(thing):
        return False
    return all([thing[at] in web.tied[thing[at - 1]] for at in range(len(thing))])


def may_be_on(web, row, told):
    """Whether told is an answer to row on a web."""
    if not all([pair[1] < web.places for pair in told]) or not stand_close(web, told):
        return False
    inputs = [pair[1] for pair in row]
    return not stand_close(web, row) or all([pair[1] in inputs for pair in told])


def stand_close(web, row):
    """Whether the places of row are one place, or the two ends of one tie."""
    places = sorted(set([pair[1] for pair in row]))
    return len(places) == 1 or (len(places) == 2 and places[1] in web.tied[places[0]])
