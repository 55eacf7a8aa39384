"""Folding: ways on surfaces with two sides are drawn, push by push, as short as their words can be made."""

from waitless.polygons import back, backwards, laid_together, ring_of
from waitless.surfaces import led_from


class Polygon:
    """The triangles of a surface laid together, gone round in one direction, and how to draw ways over all of them."""

    def __init__(self, corners, triangles, letters):
        self.corners = corners
        self.triangles = triangles
        # Where the letters that are met at the rim begin, by the numbers of corners.
        count = len(corners)
        self.starts = {}
        for at in range(count):
            step = (corners[at], corners[(at + 1) % count])
            if step in letters:
                self.starts[step] = at
        self._sweeps = {}

    def sweep(self, first, last):
        """The pair of pushes that lead the way around the rim from one letter on to another over all, and where to.

        The way that is begun with has no returns; what it is led to are the places the other way round the rim.
        """
        key = (first, last)
        if key not in self._sweeps:
            count = len(self.corners)
            start = self.starts[first]
            length = (self.starts[last] + 1 - start) % count
            line = [(start + at) % count for at in range(length + 1)]
            pushes = returns_put_in([self.corners[corner] for corner in line])
            pushes.extend(self._swept(line))
            others = [self.corners[(start - at) % count] for at in range(count - length + 1)]
            self._sweeps[key] = (pushes, others)
        return self._sweeps[key]

    def _swept(self, line):
        """The pushes that lead the way along a line of corners over all triangles, to the other side of the rim."""
        left = list(self.triangles)
        pushes = []
        while len(left) > 0:
            at, triangle, corner = next_triangle(line, left)
            left.remove(triangle)
            if corner in line[at:at + 3]:
                pushes.append(("out", at + 1))
                line = line[:at + 1] + line[at + 2:]
            else:
                pushes.append(("in", at, self.corners[corner]))
                line = line[:at + 1] + [corner] + line[at + 1:]
        return pushes


class Folding:
    """A loop that is gone through, and made short behind: what is done, what is left, and the pushes by now.

    What is done has no crossed ties, no returns, and letters in which nothing is left to be exchanged.
    """

    def __init__(self, surface, cutting, loop):
        places, self.pushes = cut_short(surface, loop)
        self._tree = {tie: True for tie in cutting[0]}
        self._over = places_over(surface, cutting[1])
        ring = ring_of(surface, cutting)
        corners, triangles = laid_together(surface, cutting[1])
        last = len(corners) - 1
        turned = [tuple([last - corner for corner in triangle]) for triangle in triangles]
        self._rings = [ring, backwards(ring)]
        self._polygons = [Polygon(corners, triangles, ring), Polygon(corners[::-1], turned, self._rings[1])]
        self._done = places[:1]
        # What is left stands the last place first, so that the next one can be taken at once.
        self._left = places[:0:-1]
        # For each letter done, where it begins, itself, and how many up to it are a stretch of each of the two rings.
        self._marks = []

    def fold(self):
        """All is gone through; the list of the places that there are then."""
        while len(self._left) > 0:
            here, there = self._done[-1], self._left[-1]
            tie = (min(here, there), max(here, there))
            if here == there:
                self._stand()
            elif tie in self._over:
                self._push_in(self._over[tie])
            elif len(self._done) > 1 and self._done[-2] == there:
                self._take_back()
            else:
                self._go_on(tie)
        return self._done

    def letters(self):
        """The list of the letters done."""
        return [mark[1] for mark in self._marks]

    def _push_in(self, place):
        """The place is put ahead of what is left."""
        self.pushes.append(("in", len(self._done) - 1, place))
        self._left.append(place)

    def _take_back(self):
        """The last place done is taken out, as it is gone back from at once."""
        self.pushes.append(("out", len(self._done) - 1))
        self._done.pop()
        if len(self._marks) > 0 and self._marks[-1][0] == len(self._done) - 1:
            self._marks.pop()

    def _stand(self):
        """Of two equal places one is taken out, if neither the first nor the last one must be."""
        if len(self._left) > 1:
            self.pushes.append(("out", len(self._done)))
            self._left.pop()
        elif len(self._done) > 1:
            self._take_back()
        else:
            self._done.append(self._left.pop())

    def _go_on(self, tie):
        """The next place is done, over a tie of the tree or a letter."""
        letter = (self._done[-1], self._left[-1])
        self._done.append(self._left.pop())
        if tie not in self._tree:
            lengths = [self._length_with(number, letter) for number in (0, 1)]
            self._marks.append((len(self._done) - 2, letter, lengths))
            for number in (0, 1):
                if self._is_to_change(lengths[number]):
                    self._exchange(number, lengths[number])
                    return

    def _length_with(self, number, letter):
        """How many letters up to this one, the next one, are a stretch of a ring."""
        if len(self._marks) == 0:
            return 1
        ring = self._rings[number]
        _, before, lengths = self._marks[-1]
        if ring[ring.index(letter) - 1] == before:
            return lengths[number] + 1
        return 1

    def _is_to_change(self, length):
        """Whether a stretch of this length, which ends with the last letter done, is to be exchanged."""
        ring = self._rings[0]
        if len(ring) > 4:
            return 2 * length > len(ring)
        # On a ring of four any two letters may change places: all of the one tie go ahead of those of the other.
        return length > 1 and self._marks[-1][1] in (ring[0], back(ring[0]))

    def _exchange(self, number, length):
        """The last letters done, a stretch of a ring of this length, are led over all triangles and left again."""
        marks = self._marks[-length:]
        if len(self._rings[number]) == 4:
            marks = self._marks[-2:]
        pushes, others = self._polygons[number].sweep(marks[0][1], marks[-1][1])
        start = marks[0][0]
        self.pushes.extend([(push[0], push[1] + start) + push[2:] for push in pushes])
        del self._done[start + 1:]
        del self._marks[-len(marks):]
        self._left.extend(others[:0:-1])


def cut_short(surface, loop):
    """The pair of the list of the places of loop without those that can be taken out one by one, and of the pushes."""
    places = []
    pushes = []
    for place in loop:
        while len(places) > 1 and surface.are_spot(places[-2:] + [place]):
            pushes.append(("out", len(places) - 1))
            places.pop()
        places.append(place)
    return (places, pushes)


def places_over(surface, crossed):
    """The dict from the crossed ties to the places across: those of the triangles farther from the first one."""
    beside = {tie: surface.pair_beside(tie) for tie in crossed}
    found = {}
    for at, tie in led_from(0, beside).items():
        if tie is not None:
            found[tie] = [place for place in surface.triangles[at] if place not in tie][0]
    return found


def returns_put_in(places):
    """The pushes that lead a way without returns to that of these places, which goes over the same letters."""
    pushes = []
    done = [places[0]]
    for place in places[1:]:
        if len(done) > 1 and done[-2] == place:
            # What goes to a place and back is left out: the place, and then one of two that are equal.
            pushes.append(("in", len(done) - 2, done[-1]))
            pushes.append(("in", len(done) - 2, place))
            done.pop()
        else:
            done.append(place)
    return pushes[::-1]


def next_triangle(line, left):
    """The triple of where a line of corners is led over one of the triangles that are left, that one, and its corner.

    A triangle with two sides along the line comes first; if there is none, no other one has its third corner on it.
    """
    sides = {}
    for at in range(len(line) - 1):
        sides[(line[at], line[at + 1])] = at
        sides[(line[at + 1], line[at])] = at
    single = None
    for triangle in left:
        one, two, three = triangle
        along = [sides[side] for side in ((one, two), (two, three), (one, three)) if side in sides]
        if len(along) > 1:
            return (min(along), triangle, line[min(along) + 2])
        if len(along) == 1 and single is None:
            ends = line[along[0]:along[0] + 2]
            single = (along[0], triangle, [corner for corner in triangle if corner not in ends][0])
    return single
