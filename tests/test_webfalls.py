"""[103]: falls on webs."""

import random
import time

from tests.helping import Case, kinds, plain_end
from tests.test_nearness import NO_MANY, NO_ROUNDS, answers_for, own
from tests.test_webs import NO_PLACES, NO_TIES, full, is_let, ring_of, row_of, some_tree, some_web
from waitless.errors import BadAnswer, BadMany, BadPlaces, BadRounds, BadTies, Enough
from waitless.falls import is_fall
from waitless.making import on_web
from waitless.webfalls import web_fall
from waitless.webs import web_answer, web_paper, web_rounds


def hands_in(corner):
    """All hands that a corner's hand has heard of, itself too."""
    found, waiting = {corner[0]}, [corner[1]]
    while waiting:
        view = waiting.pop()
        if isinstance(view, tuple):
            for hand, inner in view:
                found.add(hand)
                waiting.append(inner)
    return found


def answers_on(chance, places, ties):
    """Functions of a corner that tell places, most of them such as are let nearly everywhere."""
    tree = some_tree(chance, places)

    def by_tree(corner):
        rounds, view = 0, corner[1]
        while isinstance(view, tuple):
            rounds, view = rounds + 1, view[0][1]
        least = web_rounds(3, places, row_of(places))
        return web_answer(3, places, row_of(places), rounds, corner) if least <= rounds and corner[0] < 3 else own(corner)
    return answers_for(places - 1) + [own, by_tree, lambda corner: tree[0][0] if tree else 0, lambda corner: 10 ** 9 - 1,
                                      lambda corner: max(own(corner) - 1, 0)]


class Webfalls(Case):
    def check_fall(self, many, places, ties, rounds, answer):
        asked = {}

        def asking(corner):
            asked[kinds(corner)] = True
            return answer(corner)
        row, course, told = web_fall(many, places, ties, rounds, asking)
        self.assertTrue(all(0 <= hand < many and 0 <= value < places for hand, value in row))
        self.assertEqual(len(course), rounds)
        ends = plain_end(row, course)
        self.assertEqual(told, tuple((hand, answer((hand, ends[hand]))) for hand in ends))
        self.assertFalse(is_let(ties, row, told))
        return len(asked)

    def test_by_hand(self):
        fall = self.same(web_fall, "many places ties rounds answer", 3, 3, ((0, 1), (0, 2), (1, 2)), 0, own)
        self.assertEqual(fall[1], ())
        self.assertEqual(sorted(value for _, value in fall[0]), [0, 1, 2])
        self.assertEqual(web_fall(2, 2, (), 0, own), (((0, 0), (1, 1)), (), ((0, 0), (1, 1))))

    def test_short_ways_and_apart(self):
        chance = random.Random(1031)
        webs = [(5, row_of(5)), (9, row_of(9)), (8, ring_of(8)), (4, ((0, 1), (2, 3))), (6, ()), (12, some_tree(chance, 12))]
        for places, ties in webs:
            for many in (2, 3, 4):
                for rounds in range(5):
                    least = web_rounds(many, places, ties)
                    if least is not None and least <= rounds or (least is None and (web_paper(many, places, ties) or ("",))[0] == "ring"):
                        continue
                    for answer in answers_on(chance, places, ties):
                        self.check_fall(many, places, ties, rounds, answer)

    def test_rings(self):
        chance = random.Random(1032)
        webs = [(3, ring_of(3)), (4, ring_of(4)), (5, ring_of(5)), (7, ring_of(7)), (4, full(4)), (5, full(5)),
                (6, tuple(sorted(ring_of(4) + ((3, 4), (4, 5))))), (6, some_web(chance, 6))]
        for places, ties in webs:
            if (web_paper(3, places, ties) or ("",))[0] != "ring":
                continue
            for many in (3, 4):
                for rounds in range(4):
                    for answer in answers_on(chance, places, ties):
                        count = self.check_fall(many, places, ties, rounds, answer)
                        self.assertLessEqual(count, 24 * (places + 1) * 3 ** rounds)

    def test_rings_that_are_right_along_all_sides(self):
        # What two hands tell is a table of theirs, so that a fall has all three: the way to it leads down through rounds.
        for places in (3, 4, 5, 6):
            ties = ring_of(places)
            for rounds in range(web_rounds(2, places, ties), 4):
                for number in range(3):
                    for turned in (lambda place: place, lambda place: (2 - place) % places, lambda place: (place + 2) % places):
                        answer = self.right_for_two(places, ties, rounds, number, turned)
                        count = self.check_fall(3, places, ties, rounds, answer)
                        self.assertLessEqual(count, 24 * (places + 1) * 3 ** rounds)
                        self.assertEqual(len(web_fall(3, places, ties, rounds, answer)[0]), 3)

    def right_for_two(self, places, ties, rounds, number, turned):
        back = {turned(place): place for place in range(places)}

        def answer(corner):
            names = sorted(hands_in(corner))
            if len(names) < 3:
                # Two hands are told by the table of two, the lower one as hand 0, the ring being turned by some places.
                return back[web_answer(2, places, ties, rounds, self.named(corner, names, turned))]
            return (own(corner), sum(map(ord, kinds(corner))) % places, 0)[number]
        return answer

    def test_inputs_that_stand_close_are_answered_alone(self):
        # On a web of three places all stand close; but between two that are tied the third one isn't let.
        def answer(corner):
            values = [value for _, value in corner[1]]
            return 3 - sum(set(values)) if len(set(values)) == 2 else own(corner)
        self.check_fall(3, 3, ring_of(3), 1, answer)
        self.assertEqual(len(web_fall(3, 3, ring_of(3), 1, answer)[0]), 2)

    def test_three_places_do_not_stand_close(self):
        def answer(corner):
            return own(corner) if len(corner[1]) == 1 else (3, 1, 3)[corner[0]]
        self.check_fall(3, 5, row_of(5), 1, answer)

    def named(self, corner, names, turned):
        """The corner with its one or two hands called 0 and 1."""
        if isinstance(corner[1], tuple):
            return (names.index(corner[0]), tuple(self.named(pair, names, turned) for pair in corner[1]))
        return (names.index(corner[0]), turned(corner[1]))

    def test_falls_of_small_tasks(self):
        chance = random.Random(1034)
        for many, places, ties, rounds in ((3, 3, ring_of(3), 1), (2, 4, row_of(4), 0), (3, 4, ring_of(4), 2), (2, 3, (), 1), (3, 5, row_of(5), 1),
                                           (4, 3, ring_of(3), 1)):
            task = on_web(many, places, ties)
            for answer in answers_on(chance, places, ties):
                self.assertIs(is_fall(task, rounds, answer, web_fall(many, places, ties, rounds, answer)), True)

    def test_enough(self):
        for places, ties in ((1, ()), (2, ((0, 1),)), (5, row_of(5)), (9, row_of(9)), (5, ring_of(5)), (3, ())):
            for many in (1, 2, 3, 4):
                least = web_rounds(many, places, ties)
                for rounds in range(7):
                    if least is not None and least <= rounds:
                        self.told(Enough, web_fall, many, places, ties, rounds, None)
                    elif rounds < 3:
                        self.check_fall(many, places, ties, rounds, own)

    def test_bad_answers(self):
        chance = random.Random(1035)
        for wrong in (None, True, -1, 10 ** 9, "1", 1.0, ()):
            for many, places, ties, rounds in ((2, 5, row_of(5), 1), (3, 4, ring_of(4), 1), (3, 5, row_of(5), 1), (2, 2, (), 1)):
                asked = []
                self.check_fall(many, places, ties, rounds, lambda corner: asked.append(corner) or own(corner))
                for bad in chance.sample(asked, 3):
                    def answer(corner):
                        return wrong if corner == bad else own(corner)
                    try:
                        web_fall(many, places, ties, rounds, answer)
                    except BadAnswer as raised:
                        self.assertEqual(kinds(raised.corner), kinds(bad))
            self.told(BadAnswer, web_fall, 3, 3, ring_of(3), 1, lambda corner: wrong)

    def test_wrong_parameters(self):
        self.wrong(web_fall, [2, 3, ((0, 1),), 1, own], (BadMany, NO_MANY), (BadPlaces, NO_PLACES), (BadTies, NO_TIES),
                   (BadRounds, NO_ROUNDS), (BadRounds, []))

    def test_sixty_places(self):
        begun = time.monotonic()
        for many, ties, rounds in ((2, row_of(60), 3), (3, row_of(60), 5), (2, (), 6), (3, ring_of(60), 6), (3, full(60), 3), (4, ring_of(60), 4)):
            for answer in (own, lambda corner: 30):
                count = self.check_fall(many, 60, ties, rounds, answer)
                self.assertLessEqual(count, 24 * 61 * 3 ** rounds)
        # Two hands are told along a ring, so that only three of them show the fall.
        answer = self.right_for_two(60, ring_of(60), 4, 0, lambda place: place)
        count = self.check_fall(3, 60, ring_of(60), 4, answer)
        self.assertLessEqual(count, 24 * 61 * 3 ** 4)
        self.assertLess(time.monotonic() - begun, 120)
