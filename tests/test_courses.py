"""[22], [23]: courses, and who stops."""

import itertools
import random
import unittest

from tests.helping import (NO_HAND, NO_HANDS, NO_ROUNDS, NO_ROWS, ODD, Case, groups, plain_blocks, plain_courses,
                           plain_end)
from waitless.courses import across, course_of, end, fading_end, heard, is_course, is_fading, led_on
from waitless.errors import BadCourse, BadFading, BadHand, BadHands, BadRounds, BadRow, BadViews, TooMany

ROW = ((0, 5), (1, 8))
FULL = ((0, 5), (1, 8), (3, 0))
NO_COURSES = [None, True, [], [((0, 1),)], ((0, 1),), (((0,),),), (((0, 1), (0,)),), (((1, 0),),), (((0, True),),),
              (((0, 2),),), (((0,), (1,), ()),), ([(0, 1)],), (((0, 1),), ((0,),)), ((),), (((0, 1),),) * 41, "0", 0]


def all_fading(hands, rounds):
    """All fading courses of so many rounds."""
    if rounds == 0:
        return [()]
    found = [(blocks,) for blocks in plain_blocks(hands)]
    for _ in range(rounds - 1):
        found = [fading + (blocks,) for fading in found
                 for left in groups(tuple(sorted(hand for block in fading[-1] for hand in block)))
                 for blocks in plain_blocks(left)]
    return found


def plain_fading_end(row, fading):
    """The views of those that go on, told round by round."""
    views = dict(row)
    for blocks in fading:
        views = plain_end(tuple((hand, views[hand]) for block in blocks for hand in block), [blocks])
    return views


class Courses(Case):
    def test_is_course(self):
        for hands in groups((0, 1, 2, 3)):
            for rounds in range(3 if len(hands) < 3 else 2):
                for course in plain_courses(hands, rounds):
                    self.assertIs(is_course(hands, course), True)
                    for other in groups((0, 1, 2, 3)):
                        if rounds > 0 and other != hands:
                            self.assertIs(is_course(other, course), False)
        for thing in NO_COURSES:
            self.assertIs(is_course((0, 1), thing), False)
        self.assertIs(is_course(hands=(0, 1), thing=(((0, 1),),) * 40), True)
        blocks = {repr(one) for one in plain_blocks((0, 1))}
        for thing in ODD:
            right = type(thing) is tuple and len(thing) < 41 and all(
                type(one) is tuple and all(type(block) is tuple and len(block) < 5 and all(
                    type(hand) is int for hand in block) for block in one) and repr(one) in blocks for one in thing)
            self.assertIs(is_course((0, 1), thing), right)
        self.wrong(is_course, [(0, 1), ()], (BadHands, NO_HANDS), (None, []))

    def test_end(self):
        for row, rounds in ((ROW[:1], 6), (ROW, 0), (ROW, 1), (ROW, 4), (FULL, 2), (((0, 1), (1, 1), (2, 1), (3, 1)), 1)):
            for course in plain_courses(tuple(hand for hand, _ in row), rounds):
                found = end(row, course)
                self.assertEqual(found, plain_end(row, course))
                self.assertEqual(list(found), [hand for hand, _ in row])
        self.same(end, "row course", FULL, (((1,), (0, 3)), ((0, 1, 3),)))
        self.wrong(end, [ROW, (((0, 1),),)], (BadRow, NO_ROWS), (BadCourse, NO_COURSES))
        self.assertEqual(self.told(TooMany, end, ROW, (((0, 1),),) * 7).most, 6)
        self.told(BadCourse, end, ROW, (((0, 1),),) * 7 + (((0,),),))

    def test_course_of(self):
        for row, rounds in ((ROW[:1], 3), (ROW, 0), (ROW, 1), (ROW, 4), (FULL, 2), (((0, 1), (1, 1), (2, 1), (3, 1)), 1)):
            ends = {}
            for course in plain_courses(tuple(hand for hand, _ in row), rounds):
                views = plain_end(row, course)
                self.assertNotIn(tuple(views.items()), ends)
                ends[tuple(views.items())] = course
                self.assertEqual(course_of(row, rounds, views), course)
            sides = [sorted({facet[at][1] for facet in ends}, key=repr) for at in range(len(row))]
            for views in itertools.islice(itertools.product(*sides), 4000):
                face = tuple((pair[0], view) for pair, view in zip(row, views))
                self.assertEqual(course_of(row, rounds, dict(face[::-1])), ends.get(face))
        views = plain_end(FULL, (((1,), (0, 3)),))
        self.assertEqual(self.same(course_of, "row rounds views", FULL, 1, views), (((1,), (0, 3)),))
        self.assertIsNone(course_of(((0, 5), (1, 8), (3, 1)), 1, views))

    def test_course_of_any_views(self):
        for thing in ODD:
            try:
                right = type(thing) is int and thing == 5
            except RecursionError:
                right = False
            self.assertEqual(course_of(ROW, 0, {0: thing, 1: 8}), () if right else None)
            self.assertIsNone(course_of(ROW, 1, {0: thing, 1: ((0, 5), (1, 8))}) if repr_is_not(thing) else None)
            self.assertIsNone(course_of(ROW, 3, {0: thing, 1: thing}))
        # Views that are together, but tell of more hands, or of other values.
        more = plain_end(FULL, (((0, 1, 3),), ((0, 1, 3),)))
        self.assertIsNone(course_of(ROW, 2, {0: more[0], 1: more[1]}))
        self.assertIsNone(course_of(ROW, 0, {0: 5, 1: 9}))
        no_views = [None, True, (), [(0, 5)], {}, {0: 5}, {0: 5, 1: 8, 2: 3}, {0: 5, True: 8}, {False: 5, 1: 8},
                    {0: 5, "1": 8}, {0: 5, 2: 8}, ((0, 5), (1, 8))]
        self.wrong(course_of, [ROW, 0, dict(ROW)], (BadRow, NO_ROWS), (BadRounds, NO_ROUNDS), (BadViews, no_views))

    def test_heard(self):
        for hands in ((2,), (0, 1), (0, 1, 3)):
            row = tuple((hand, 7) for hand in hands)
            for rounds in range(4 if len(hands) < 3 else 3):
                for course in plain_courses(hands, rounds):
                    for hand in hands:
                        known = {hand}
                        for blocks in course[::-1]:
                            known = {other for one in known for at, block in enumerate(blocks) if one in block
                                     for ahead in blocks[:at + 1] for other in ahead}
                        self.assertEqual(heard(hands, course, hand), tuple(sorted(known)))
            self.assertEqual(heard(hands, (), hands[0]), (row[0][0],))
        self.same(heard, "hands course hand", (0, 1), (((0,), (1,)),) * 40, 1)
        self.wrong(heard, [(0, 1), (((0, 1),),), 1], (BadHands, NO_HANDS), (BadCourse, NO_COURSES),
                   (BadHand, NO_HAND + [2, 3]))

    def test_across(self):
        for row, rounds in ((ROW[:1], 3), (ROW, 0), (ROW, 1), (ROW, 4), (FULL, 2), (((0, 1), (1, 1), (2, 1), (3, 1)), 1)):
            hands = tuple(hand for hand, _ in row)
            alike = {}
            for course in plain_courses(hands, rounds):
                for pair in itertools.combinations(plain_end(row, course).items(), len(hands) - 1):
                    alike.setdefault(pair, []).append(course)
            for faces, courses in alike.items():
                gone = [hand for hand in hands if hand not in [one for one, _ in faces]][0]
                self.assertLessEqual(len(courses), 2) if len(hands) > 1 else None
                if len(hands) == 1:
                    continue
                for course in courses:
                    other = [one for one in courses if one != course]
                    found = across(hands, course, gone)
                    self.assertEqual(found, other[0] if other else None)
                    unheard = all(gone not in heard(hands, course, one) for one in hands if one != gone)
                    late = all(blocks[-1] == (gone,) for blocks in course)
                    self.assertEqual((found is None, found is None), (unheard, late))
                    if found is not None:
                        self.assertEqual(across(hands, found, gone), course)
        self.assertIsNone(across((2,), (((2,),),) * 40, 2))

    def test_across_of_many_rounds(self):
        chance = random.Random(4)
        for hands in groups((0, 1, 2, 3)):
            blocks = plain_blocks(hands)
            for _ in range(30):
                course = tuple(chance.choice(blocks) for _ in range(40))
                for hand in hands:
                    found = across(hands, course, hand)
                    if len(hands) > 1:
                        self.assertIs(is_course(hands, found), True)
                        self.assertEqual(across(hands, found, hand), course)
                        self.assertEqual(len([at for at in range(40) if found[at] != course[at]]), 1)
        late = (((0, 1), (2,)),) * 39
        self.assertIsNone(self.same(across, "hands course hand", (0, 1, 2), late + (((1,), (0,), (2,)),), 2))
        self.assertEqual(across((0, 1, 2), (((0, 2), (1,)),) + late, 2), (((2,), (0,), (1,)),) + late)
        self.wrong(across, [(0, 1), (((0, 1),),), 1], (BadHands, NO_HANDS), (BadCourse, NO_COURSES),
                   (BadHand, NO_HAND + [2, 3]))


def repr_is_not(thing):
    """Whether thing is not a view of hand 0 of one round that goes with one of all."""
    return not (type(thing) is tuple and len(thing) < 3 and thing[:1] == ((0, 5),))


class Fading(Case):
    def test_is_fading(self):
        for hands, rounds in (((1,), 3), ((0, 2), 0), ((0, 2), 2), ((0, 2), 3), ((0, 1, 3), 2), ((0, 1, 2, 3), 1)):
            every = all_fading(hands, rounds)
            let = set(every)
            for fading in every[:2000]:
                self.assertIs(is_fading(hands, fading), True)
            blocks = [one for group in groups(hands) for one in plain_blocks(group)]
            for thing in itertools.islice(itertools.product(blocks, repeat=rounds), 3000):
                self.assertIs(is_fading(hands, thing), thing in let)
        self.assertIs(is_fading(hands=(0, 1), thing=(((0, 1),),) * 20 + (((1,),),) * 20), True)
        self.wrong(is_fading, [(0, 1), ()], (BadHands, NO_HANDS), (None, []))

    wrong_ones = [one for one in NO_COURSES if one != (((0, 1),), ((0,),))] + [
        (((0,),), ((0, 1),)), (((0, 1),), ()), (((0, 1),), ((),)), (((0, 1),), ((0,),), ((1,),)),
        (((0, 1),), ((0,),), ((0,), (1,))), (((0, 1),), ((2,),)), (((0, 1),), ((False,),)), (((0, 1),), [(0,)]),
        (((0, 1),), ([0],)), (((0, 1),), (0,)), (((0, 1),), ((0,), (0,))), (((0, 1),),) * 40 + (((0,),),)]

    def test_wrong_things(self):
        for thing in self.wrong_ones:
            self.assertIs(is_fading((0, 1), thing), False)
        for thing in ODD:
            if is_fading((0, 1), thing):
                self.assertIn(repr(thing), {repr(one) for rounds in range(3) for one in all_fading((0, 1), rounds)})

    def test_ends(self):
        for row, rounds in ((ROW[:1], 2), (ROW, 0), (ROW, 1), (ROW, 2), (ROW, 3), (FULL, 2)):
            hands = tuple(hand for hand, _ in row)
            for fading in all_fading(hands, rounds)[:3000]:
                found = fading_end(row, fading)
                self.assertEqual(found, plain_fading_end(row, fading))
                self.assertEqual(list(found), sorted(found))
                course = led_on(hands, fading)
                self.assertIs(is_course(hands, course), True)
                for at, blocks in enumerate(fading):
                    stopped = [hand for hand in hands if hand not in [one for block in blocks for one in block]]
                    self.assertEqual(course[at], blocks + tuple((hand,) for hand in stopped))
                views = plain_end(row, course)
                self.assertEqual(found, {hand: views[hand] for hand in found})
        self.same(fading_end, "row fading", FULL, (((0, 1, 3),), ((3,), (0,))))
        self.same(led_on, "hands fading", (0, 1, 3), (((0, 1, 3),), ((3,), (0,))))
        self.assertEqual(fading_end(ROW, ()), {0: 5, 1: 8})
        self.assertEqual(led_on((0, 1), (((1, 0)[::-1],), ((1,),)) + (((1,),),) * 38),
                         (((0, 1),),) + (((1,), (0,)),) * 39)

    def test_wrong_parameters(self):
        self.wrong(fading_end, [ROW, (((0, 1),),)], (BadRow, NO_ROWS), (BadFading, self.wrong_ones))
        self.wrong(led_on, [(0, 1), (((0, 1),),)], (BadHands, NO_HANDS), (BadFading, self.wrong_ones))
        self.assertEqual(self.told(TooMany, fading_end, ROW, (((0, 1),),) * 6 + (((0,),),)).most, 6)
        self.told(BadFading, fading_end, ROW, (((0, 1),),) * 6 + (((0, 2),),))


if __name__ == "__main__":
    unittest.main()
