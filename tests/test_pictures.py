"""[24]: pictures."""

import itertools
import random
import time
import unittest

from tests.helping import (NO_HANDS, NO_NUMBERS, NO_ROUNDS, NO_ROWS, ODD, Case, changes, deep_view, fubini, groups,
                           kinds, plain_blocks, plain_courses, plain_end, plain_faces, plain_facets, plain_leaves)
from waitless.courses import across
from waitless.errors import (BadCourse, BadFace, BadHands, BadMany, BadRounds, BadRow, BadSize, OtherCount, TooMany)
from waitless.pictures import corners, faces_many, facets, is_face, line_place, many_with, way_between

FOUR = ((0, 1), (1, 1), (2, 1), (3, 999999999))
SMALL = [(FOUR[:1], 0), (FOUR[:1], 2), (FOUR[1:3], 0), (FOUR[1:3], 1), (FOUR[1:3], 2), (FOUR[1:3], 3), (FOUR[1:], 0),
         (FOUR[1:], 1), (FOUR[1:], 2), (FOUR, 0), (FOUR, 1)]
NO_COURSES = [None, [], (((0,),),), (((0, 1), (0,)),), (((0, True),),), (((0, 2),),), (((0, 1),),) * 41]


class Pictures(Case):
    def test_corners_and_facets(self):
        for row, rounds in SMALL:
            plain = plain_facets(row, rounds)
            found = facets(row, rounds)
            self.assertEqual(found, sorted(plain))
            self.assertEqual(len(found), fubini(len(row)) ** rounds)
            self.assertEqual(corners(row, rounds), sorted({corner for facet in plain for corner in facet}))
            found.clear()
            corners(row, rounds).clear()
            self.assertEqual(len(facets(row, rounds)), len(plain))
        self.same(corners, "row rounds", FOUR[:2], 2)
        self.same(facets, "row rounds", FOUR[:2], 2)

    def test_wrong_parameters(self):
        for called in (corners, facets):
            self.wrong(called, [FOUR[:2], 2], (BadRow, NO_ROWS), (BadRounds, NO_ROUNDS))
            for row, rounds in ((FOUR, 3), (FOUR, 6), (FOUR[:3], 4)):
                self.assertEqual(self.told(TooMany, called, row, rounds).most, 6000)
            self.told(BadRounds, called, FOUR, 7)

    def test_as_many_as_there_may_be(self):
        begun = time.monotonic()
        for row, rounds in ((FOUR[:1], 6), (FOUR[:2], 6), (FOUR[:3], 3), (FOUR, 2)):
            found = facets(row, rounds)
            self.assertEqual(len(found), fubini(len(row)) ** rounds)
            self.assertTrue(all(found[at] < found[at + 1] for at in range(len(found) - 1)))
            told = corners(row, rounds)
            self.assertEqual(len(told), faces_many(len(row), rounds, 1))
            self.assertTrue(all(told[at] < told[at + 1] for at in range(len(told) - 1)))
            for face in random.Random(1).sample(found, min(50, len(found))):
                self.assertIs(is_face(row, rounds, face), True)
                self.assertEqual(many_with(row, rounds, face), 1)
        self.assertLess(time.monotonic() - begun, 100)

    def test_is_face(self):
        for row, rounds in SMALL:
            faces = plain_faces(row, rounds)
            let = {kinds(face) for face in faces}
            for face in faces:
                self.assertIs(is_face(row, rounds, face), True)
            for face in sorted(faces, key=lambda one: (-len(one), one))[:2]:
                for other in changes(face):
                    self.assertIs(is_face(row, rounds, other), kinds(other) in let, kinds(other))
            for thing in ODD:
                found = is_face(row, rounds, thing)
                self.assertIn(found, (True, False))
                self.assertTrue(not found or kinds(thing) in let)
            if rounds < 3:
                sides = sorted({corner for face in faces for corner in face})
                for face in itertools.islice(itertools.combinations(sides, 2), 5000):
                    self.assertIs(is_face(row, rounds, face), face in faces)
            # What other rows have for faces is none, unless no value differs that was seen.
            other = tuple((hand, value if hand else 2) for hand, value in row)
            for face in plain_faces(other, rounds):
                right = set(plain_leaves(rounds, face)) <= set(row)
                self.assertIs(is_face(row, rounds, face), right)
        self.assertIs(is_face(row=FOUR, rounds=0, thing=FOUR), True)
        self.wrong(is_face, [FOUR, 0, FOUR], (BadRow, NO_ROWS), (BadRounds, NO_ROUNDS), (None, []))

    def test_many_with(self):
        for row, rounds in SMALL:
            plain = plain_facets(row, rounds)
            counts = {}
            for facet in plain:
                for size in range(1, len(row) + 1):
                    for face in itertools.combinations(facet, size):
                        counts[face] = counts.get(face, 0) + 1
            for face, count in counts.items():
                self.assertEqual(many_with(row, rounds, face), count)
                if len(face) == len(row) - 1:
                    gone = [pair for pair in row if pair[0] not in [hand for hand, _ in face]]
                    self.assertEqual(count, 2 - (gone[0] not in plain_leaves(rounds, face)))
            self.assertEqual(len(counts), len(plain_faces(row, rounds)))
        self.assertEqual(self.same(many_with, "row rounds face", FOUR, 0, FOUR[:2]), 1)
        wrong = [None, True, (), 0, [(0, ((0, 1),))], ((0, ((0, 2),)),), ((0, 1),), ((1, ((0, 1),)),),
                 ((0, ((0, True),)),), ((0, ((0, 1), (1, 1))), (1, ((1, 1),)), (2, ((2, 1),))), deep_view(50000)]
        self.wrong(many_with, [FOUR, 1, ((0, ((0, 1),)),)], (BadRow, NO_ROWS), (BadRounds, NO_ROUNDS),
                   (BadFace, wrong))

    def test_many_with_of_many_rounds(self):
        # With no limit on the facets: counted by going through the blocks of each round, without the facets.
        chance = random.Random(2)
        blocks = plain_blocks((0, 1, 2, 3))
        for rounds in (3, 6):
            for _ in range(12):
                course = [chance.choice(blocks) for _ in range(rounds)]
                facet = tuple(plain_end(FOUR, course).items())
                for hands in groups((0, 1, 2, 3)):
                    face = tuple(facet[hand] for hand in hands)
                    self.assertIs(is_face(FOUR, rounds, face), True)
                    count = many_with(FOUR, rounds, face)
                    self.assertEqual(count, self.plain_count(dict(face), rounds, blocks))
        alone = ((3, plain_end(FOUR, [((3,), (0, 1, 2))] * 6)[3]),)
        self.assertEqual(many_with(FOUR, 6, alone), fubini(3) ** 6)

    def plain_count(self, wanted, rounds, blocks):
        """In how many courses some hands have the views wanted: those whom they saw must have had what was seen."""
        if rounds == 0:
            return 1
        ways = 0
        ahead = {other: before for view in wanted.values() for other, before in view}
        for one in blocks:
            ways += all({other for other, _ in view} == {other for at, block in enumerate(one) for other in block if any(
                hand in later for later in one[at:])} for hand, view in wanted.items())
        return ways * self.plain_count(ahead, rounds - 1, blocks)

    def test_faces_many(self):
        for row, rounds in SMALL + [(FOUR[:2], 5)]:
            faces = plain_faces(row, rounds)
            for size in range(1, len(row) + 1):
                plain = len([face for face in faces if len(face) == size])
                self.assertEqual(self.same(faces_many, "many rounds size", len(row), rounds, size), plain)
        for many in range(1, 7):
            for rounds in (0, 1, 2, 7, 40):
                counts = [faces_many(many, rounds, size) for size in range(1, many + 1)]
                self.assertEqual(sum(counts[::2]) - sum(counts[1::2]), 1)
                self.assertEqual(counts[-1], fubini(many) ** rounds)
        self.wrong(faces_many, [6, 40, 6], (BadMany, NO_NUMBERS + [0, 7, -1]), (BadRounds, NO_NUMBERS + [-1, 41]),
                   (BadSize, NO_NUMBERS + [0, 7, -1]))
        self.told(BadSize, faces_many, 3, 2, 4)


class Ways(Case):
    def test_way_between(self):
        for hands, rounds in (((2,), 3), ((0, 1), 0), ((0, 1), 1), ((1, 3), 3), ((0, 1, 2), 1), ((0, 1, 2, 3), 1)):
            courses = plain_courses(hands, rounds)
            for course in courses[:9] + courses[-4:]:
                far = {course: 0}
                reached = [course]
                while reached:
                    following = [across(hands, one, hand) for one in reached for hand in hands]
                    further = [one for one in dict.fromkeys(following) if one is not None and one not in far]
                    far.update({one: far[reached[0]] + 1 for one in further})
                    reached = further
                self.assertEqual(set(far), set(courses))
                for other in courses:
                    found = way_between(hands, course, other)
                    self.assertEqual(len(found), far[other])
                    at = course
                    for hand in found:
                        at = across(hands, at, hand)
                    self.assertEqual(at, other)
        self.assertEqual(self.same(way_between, "hands course other", (0, 1), (((0, 1),),), (((0, 1),),)), [])

    def test_wrong_parameters(self):
        one = (((0, 1),),)
        self.wrong(way_between, [(0, 1), one, one], (BadHands, NO_HANDS), (BadCourse, NO_COURSES),
                   (BadCourse, NO_COURSES))
        for course, other in ((one, ()), (one, one * 2), (one * 40, one * 39), (one * 8, one * 9)):
            self.told(OtherCount, way_between, (0, 1), course, other)
        self.assertEqual(self.told(TooMany, way_between, (0, 1), one * 8, one * 8).most, 6000)
        self.told(TooMany, way_between, (0, 1, 2), (((0, 1, 2),),) * 4, (((0, 1, 2),),) * 4)
        self.told(TooMany, way_between, (0, 1, 2, 3), (((0, 1, 2, 3),),) * 3, (((0, 1, 2, 3),),) * 3)

    def test_large(self):
        begun = time.monotonic()
        self.assertEqual(way_between((3,), (((3,),),) * 40, (((3,),),) * 40), [])
        first, last = (((0,), (1,)),) * 7, (((1,), (0,)),) * 7
        self.assertEqual(len(way_between((0, 1), first, last)), 3 ** 7 - 1)
        for hands, rounds in (((0, 1, 2), 3), ((0, 1, 2, 3), 2)):
            course = (tuple((hand,) for hand in hands),) * rounds
            other = (tuple((hand,) for hand in hands[::-1]),) * rounds
            at = course
            for hand in way_between(hands, course, other):
                at = across(hands, at, hand)
            self.assertEqual(at, other)
        self.assertLess(time.monotonic() - begun, 60)

    def test_line_place(self):
        for hands in ((0, 1), (1, 3)):
            for rounds in range(6):
                places = {}
                for course in plain_courses(hands, rounds):
                    place = self.plain_place(hands, course)
                    self.assertEqual(line_place(hands, course), place)
                    places[place] = course
                self.assertEqual(set(places), set(range(3 ** rounds)))
                for place, course in places.items():
                    near = [places.get(place - 1), places.get(place + 1)]
                    if near == [None, None]:
                        near = [None]
                    self.assertEqual(sorted([across(hands, course, hand) for hand in hands][-len(near):], key=str),
                                     sorted(near, key=str))
        one, other = plain_courses((0, 1), 4)[7], plain_courses((0, 1), 4)[70]
        far = line_place((0, 1), one) - line_place((0, 1), other)
        self.assertEqual(len(way_between((0, 1), one, other)), abs(far))

    def plain_place(self, hands, course):
        place, left = 0, 0
        for blocks in course:
            if blocks == (hands,):
                place, left = 3 * place + 1, 1 - left
            else:
                place = 3 * place + (0 if blocks[0] == (hands[left],) else 2)
        return place

    def test_line_place_of_forty_rounds(self):
        chance = random.Random(3)
        for _ in range(20):
            course = tuple(chance.choice(plain_blocks((0, 2))) for _ in range(40))
            self.assertEqual(self.same(line_place, "hands course", (0, 2), course), self.plain_place((0, 2), course))
        self.assertEqual(line_place((0, 1), (((1,), (0,)),) * 40), 3 ** 40 - 1)
        self.wrong(line_place, [(0, 1), (((0, 1),),)], (BadHands, NO_HANDS + [(0,), (0, 1, 2), (3,)]),
                   (BadCourse, NO_COURSES))


if __name__ == "__main__":
    unittest.main()
