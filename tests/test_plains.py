"""[85]: tasks of values alone, and rounds gone through by looks."""

import itertools
import random
import time

from tests.helping import NO_NUMBERS, NO_TASKS, ODD, TASK, Case, changes, kinds, plain_courses, plain_end, plain_facets
from tests.test_rules import never
from waitless.errors import BadBag, BadCount, BadMany, BadPlain, BadRounds, BadTask, TooMany
from waitless.families import Family, closed, stops
from waitless.fewness import few_rounds
from waitless.guests import Hosts
from waitless.making import agreement, few, near, on_web
from waitless.nearness import near_answer
from waitless.orders import by_looks
from waitless.plains import Plain, in_rounds, plain_of
from waitless.powers import power
from waitless.rules import Acting, knew
from waitless.tables import corners_of, is_table
from waitless.tasks import Task, may_answer
from waitless.views import are_together
from waitless.waits import carried
from waitless.webs import web_answer

SOME = {(1,): [(7,)], (4,): [(7, 8), (8,), (9,)], (1, 4): [(7, 8), (9,), (7,)]}


def plain_groups_of(values, most=None):
    """All bags of some of values."""
    values = sorted(values)
    return [bag for size in range(1, (most or len(values)) + 1) for bag in itertools.combinations(values, size)]


def is_within_one(bag, bags):
    return any(set(bag) <= set(other) for other in bags)


def some_table(chance, values=3, answers=3):
    """A table of a plain task, taken by chance."""
    keys = {part for _ in range(chance.randint(1, 3))
            for part in plain_groups_of(chance.sample(range(values), chance.randint(1, values)))}
    told = {}
    every = plain_groups_of(range(answers))
    for key in sorted(keys, key=lambda one: (len(one), one)):
        below = {bag for part in plain_groups_of(key)[:-1] for bag in told[part]}
        # Greater keys go on with all that lesser ones answer, sometimes within greater bags.
        more = {tuple(sorted(set(bag) | set(chance.choice(every)))) if chance.random() < 0.3 else bag for bag in below}
        told[key] = sorted(more | set(chance.sample(every, chance.randint(1, 2))))
    return told


def plain_task(told, count):
    """The Task that a table of values makes, told anew."""
    inputs = {}
    for hands in [group for size in range(1, count + 1) for group in itertools.combinations(range(count), size)]:
        for values in itertools.product(sorted({value for key in told for value in key}), repeat=len(hands)):
            key = tuple(sorted(set(values)))
            if key in told:
                every = sorted({value for bag in told[key] for value in bag})
                inputs[tuple(zip(hands, values))] = [
                    tuple(zip(hands, answers)) for answers in itertools.product(every, repeat=len(hands))
                    if is_within_one(answers, told[key])]
    return Task(count, inputs)


class PlainRounds:
    """A hand that goes through rounds, told by what it last laid down of itself."""

    def __init__(self, hand, value, many):
        self.hand, self.many = hand, many
        self.views, self.lowest = [value], [many]

    def look(self, others):
        """others are the states of the other hands as they were at their last puts."""
        number, level = len(self.views) - 1, self.lowest[-1]
        seen = [(self.hand, self.views[number])]
        for other in others:
            if len(other.lowest) > number and other.lowest[number] <= level:
                seen.append((other.hand, other.views[number]))
        if len(seen) == level:
            self.views.append(tuple(sorted(seen)))
            self.lowest.append(self.many)
        else:
            self.lowest[-1] -= 1

    def copy(self):
        other = PlainRounds(self.hand, None, self.many)
        other.views, other.lowest = list(self.views), list(self.lowest)
        return other


def plain_run(many, rounds, values, weaving, count):
    """The views with which hands end all rounds, how many looks each of them did in each round, and all states."""
    states = [PlainRounds(hand, value, count) for hand, value in enumerate(values)]
    down, puts, looks, ends = [None] * many, [0] * many, [0] * many, {}
    for hand in weaving:
        if puts[hand] == looks[hand]:
            down[hand] = states[hand].copy()
            puts[hand] += 1
        elif hand not in ends:
            looks[hand] += 1
            if rounds > 0:
                states[hand].look([one for one in down if one and one.hand != hand])
            if len(states[hand].views) > rounds:
                ends[hand] = states[hand].views[rounds]
    return ends, looks


class Plains(Case):
    def test_by_hand(self):
        plain = Plain(table=SOME)
        self.assertEqual(plain.table(), {(1,): ((7,),), (4,): ((7, 8), (9,)), (1, 4): ((7, 8), (9,))})
        self.assertEqual([plain.may(bag=(4,), thing=thing) for thing in ((7,), (8,), (7, 8), (9,), (7, 9), (), (1,))],
                         [True, True, True, True, False, False, False])
        self.assertEqual([plain.may((1,), thing) for thing in ((7,), (8,), [7])], [True, False, False])
        task = plain.task(count=2)
        self.assertEqual(task.answers(((0, 4),)), [((0, 7),), ((0, 8),), ((0, 9),)])
        self.assertEqual(task.answers(((0, 1), (1, 1))), [((0, 7), (1, 7))])
        self.assertEqual(task.answers(((0, 4), (1, 1))), [((0, 7), (1, 7)), ((0, 7), (1, 8)), ((0, 8), (1, 7)),
                                                          ((0, 8), (1, 8)), ((0, 9), (1, 9))])
        self.assertEqual([plain_of(task), plain_of(task=task)], [plain, plain])
        self.assertEqual(Plain({(5,): [(5,)]}).task(1), Task(1, {((0, 5),): [((0, 5),)]}))

    def test_tasks_of_tables(self):
        chance = random.Random(851)
        for _ in range(60):
            told = some_table(chance)
            plain = Plain(told)
            self.assertEqual(list(plain.table()), sorted(told, key=lambda one: (len(one), one)))
            for bag, answers in plain.table().items():
                self.assertEqual(answers, tuple(sorted(one for one in told[bag]
                                                       if not any(set(one) < set(other) for other in told[bag]))))
                for thing in plain_groups_of(range(4)) + [()]:
                    self.assertIs(plain.may(bag, thing), thing != () and is_within_one(thing, told[bag]))
            for count in range(1, 5):
                task = plain.task(count)
                self.assertEqual(task, plain_task(told, count))
                found = plain_of(task)
                self.assertEqual(found.task(count), task)
                self.assertLessEqual(max(len(bag) for bag in found.table()), count)
                wanted = {bag: sorted({part for one in told[bag] for part in plain_groups_of(one) if len(part) <= count})
                          for bag in told if len(bag) <= count}
                self.assertEqual(found, Plain(wanted))

    def test_known_tasks_are_plain(self):
        for task in (agreement(2, (0, 3)), few(3, (0, 1, 2), 2), near(3, 3), on_web(2, 3, ((0, 1), (1, 2))), few(4, (0, 1), 1)):
            plain = plain_of(task)
            self.assertEqual(plain.task(task.many), task)
        self.assertEqual(plain_of(agreement(3, (2, 5))), Plain({(2,): [(2,)], (5,): [(5,)], (2, 5): [(2,), (5,)]}))

    def test_tasks_that_are_not_plain(self):
        chance = random.Random(852)
        self.assertIsNone(plain_of(Task(2, {((0, 0),): [((0, 0),)]})))
        self.assertIsNone(plain_of(Task(2, {((0, 0),): [((0, 0),)], ((1, 1),): [((1, 1),)],
                                            ((0, 0), (1, 1)): [((0, 0), (1, 1))]})))
        for _ in range(60):
            told = some_table(chance, 2, 2)
            inputs = plain_task(told, 2).table()
            row = chance.choice(list(inputs))
            every = [tuple(zip([hand for hand, _ in row], values)) for values in itertools.product((0, 1), repeat=len(row))]
            inputs[row] = chance.sample(every, chance.randint(1, len(every)))
            task = Task(2, inputs)
            found = plain_of(task)
            if found is not None:
                self.assertEqual(found.task(2), task)
            else:
                # Whatever plain task there is, its table is that of the rows of both hands.
                try:
                    other = Plain({key: sorted({tuple(sorted({value for _, value in answer})) for row in inputs
                                                if len(row) == 2 and tuple(sorted({value for _, value in row})) == key
                                                for answer in inputs[row]})
                                   for key in {tuple(sorted({value for _, value in row})) for row in inputs}})
                except BadPlain:
                    continue
                self.assertNotEqual(other.task(2), task)
        # More inputs than a plain task would have room for.
        single = Task(4, {((hand, 100 * hand + value),): [((hand, 0),)] for hand in range(4) for value in range(90)})
        self.assertIsNone(plain_of(single))

    def test_judged(self):
        plain = Plain(SOME)
        for bag, right in (((1,), [(7,)]), ((4,), [(7,), (8,), (7, 8), (9,)])):
            self.judged(lambda thing: plain.may(bag, thing), right)
        for thing in ODD:
            self.assertIs(plain.may((1, 4), thing), False)

    def test_equality_and_sequence(self):
        chance = random.Random(853)
        for _ in range(30):
            told = some_table(chance)
            rows = list(told.items())
            chance.shuffle(rows)
            other = {key: tuple(chance.sample(bags, len(bags))) for key, bags in rows}
            more = {key: list(bags) + [bag for bag in plain_groups_of(bags[0]) if bag not in bags] for key, bags in rows}
            self.assertEqual(Plain(told), Plain(other))
            self.assertEqual(Plain(told), Plain(more))
            self.assertEqual(kinds(Plain(told).table()), kinds(Plain(other).table()))
        for other in (Plain({(1,): [(7,)]}), Plain({**SOME, (1, 4): [(7, 8), (9, 10)]}), TASK, SOME, None, 0, True):
            self.assertFalse(Plain(SOME) == other)
        for thing in ODD:
            self.assertIs(Plain(SOME) == thing, False)

    def test_nothing_is_tied_to_the_inside(self):
        told = {(1,): [(7,)], (4,): [(7, 8), (9,)], (1, 4): [(7, 8), (9,)]}
        plain = Plain(told)
        told[(1,)].append((8,))
        told[(5,)] = [(5,)]
        plain.table().clear()
        plain.table()[(1,)] = ()
        self.assertEqual(plain, Plain(SOME))
        self.assertIs(plain.may((1,), (8,)), False)

    def test_wrong_tables(self):
        wrong = [None, True, 0, [], {}, (), [(1,)], {(): [(1,)]}, {(1,): []}, {(1,): [()]}, {(1,): [(1,), (1,)]}, {(1,): [(2, 1)]},
                 {(1,): (1,)}, {(1,): None}, {(1,): [1]}, {(1,): [(True,)]}, {(1,): [(10 ** 9,)]}, {(1,): [(-1,)]}, {1: [(1,)]},
                 {(True,): [(1,)]}, {(2, 1): [(1,)], (1,): [(1,)], (2,): [(1,)]}, {(1, 1): [(1,)], (1,): [(1,)]},
                 {(1, 2): [(1,)], (1,): [(1,)]}, {(1,): [(7,)], (2,): [(8,)], (1, 2): [(7,)]}, {(10 ** 9,): [(1,)]},
                 {(1,): [(7, 8)], (2,): [(8,)], (1, 2): [(7,), (8,)]}, {(1,): {(1,)}}, {(1,): {(1,): 1}}, {(1,): [(1,)], "1": [(1,)]},
                 {(1,): [[1]]}, {(1,): [(1.0,)]}, TASK, {(1,): [(7,)], (2,): []}, {(1,): [(7,), (8, 7)]}, {(1,): [(8, 8), (7,)]},
                 {(1,): [(7,)], (2,): [(8,), (8,)]}, {(1,): [(7,)], (2,): None}, {(1,): [(7,), (True,)]}, {(1,): [(7,)], (2,): [()]}]
        for told in wrong:
            self.told(BadPlain, Plain, told)
        # Each answer must be gone on with in every greater key, however much greater.
        whole = {bag: [(7,)] for bag in plain_groups_of((1, 2, 3))}
        Plain(whole)
        self.told(BadPlain, Plain, {**whole, (1, 2, 3): [(8,)]})
        self.told(BadPlain, Plain, {**whole, (1,): [(7,), (8,)]})
        for other in changes(((1,),)):
            if isinstance(other, tuple) and kinds(other) not in (kinds(((1,),)),):
                right = len(other) > 0 and all(
                    isinstance(bag, tuple) and bag and all(type(one) is int and 0 <= one < 10 ** 9 for one in bag)
                    and sorted(set(bag)) == list(bag) for bag in other) and len(set(other)) == len(other)
                if right:
                    Plain({(1,): other})
                else:
                    self.told(BadPlain, Plain, {(1,): other})

    def test_wrong_parameters(self):
        plain = Plain(SOME)
        for bag in [None, True, 0, (), [1], (4, 1), (2,), (True,), (1, 4, 5), ((1,),), "1", (1.0,)]:
            self.told(BadBag, plain.may, bag, (7,))
        for count in NO_NUMBERS + [0, 5, -1, 10 ** 30]:
            self.told(BadCount, plain.task, count)
        self.wrong(plain_of, [TASK], (BadTask, NO_TASKS))
        self.wrong(in_rounds, [2, 1, never], (BadMany, NO_NUMBERS + [0, 5, -1]), (BadRounds, NO_NUMBERS + [-1, 4, 10 ** 30]),
                   (BadRounds, []))

    def test_too_many_inputs(self):
        def wide(number):
            return Plain({(value,): [(0,)] for value in range(number)})
        # A value alone makes 2 ** count - 1 inputs.
        for count, number in ((1, 1000), (2, 333), (3, 142), (4, 66)):
            self.assertEqual(len(wide(number).task(count).inputs()), number * (2 ** count - 1))
            self.assertEqual(self.told(TooMany, wide(number + 1).task, count).most, 1000)
        # Six values, any four of which go together: 4 hands would have 6 ** 4 inputs and more.
        plain = Plain({bag: [(0,)] for bag in plain_groups_of(range(9), 3)})
        self.assertEqual(len(plain.task(3).inputs()), 10 ** 3 - 1)
        self.assertEqual(self.told(TooMany, plain.task, 4).most, 1000)
        self.assertEqual(len(plain.task(2).inputs()), 10 ** 2 - 1)
        self.told(BadCount, plain.task, 5)


class GoingThroughRounds(Case):
    def test_by_hand(self):
        rule = in_rounds(many=2, rounds=1, answer=lambda corner: 10 * corner[0] + len(corner[1]))
        acting = Acting((5, 8), rule)
        acting.led((0, 0, 0))
        self.assertEqual(acting.answers(), {})
        acting.led((0, 1, 1))
        self.assertEqual(acting.answers(), {0: 1, 1: 12})
        acting = Acting((5, 8), in_rounds(2, 0, lambda corner: corner[1]))
        acting.led((0, 0))
        self.assertEqual(acting.answers(), {0: 5})

    def test_all_weavings_of_two_hands(self):
        for rounds in (0, 1, 2):
            for weaving in itertools.product((0, 1), repeat=10):
                self.check_run(2, rounds, (5, 8), weaving)

    def test_some_weavings(self):
        chance = random.Random(854)
        for _ in range(150):
            many, rounds = chance.randint(1, 4), chance.randint(0, 3)
            values = tuple(chance.randint(0, 5) for _ in range(many))
            self.check_run(many, rounds, values, tuple(chance.randrange(many) for _ in range(chance.randint(0, 60))))

    def check_run(self, many, rounds, values, weaving):
        asked = []

        def answer(corner):
            asked.append(corner)
            return 1
        acting = Acting(values, in_rounds(many, rounds, answer))
        acting.led(weaving)
        ends, looks = plain_run(many, rounds, values, weaving, many)
        self.assertEqual(sorted(acting.answers()), sorted(ends))
        self.assertEqual(sorted(map(kinds, asked)), sorted(kinds(corner) for corner in ends.items()))
        if ends:
            face = tuple(sorted(ends.items()))
            self.assertTrue(are_together(rounds, face))
            for hand, view in face:
                inner, total = view, 0
                for _ in range(rounds):
                    total += many - len(inner) + 1
                    inner = dict(inner)[hand]
                self.assertEqual(looks[hand], total if rounds else 1)

    def test_all_views_come(self):
        for many, rounds in ((2, 1), (2, 2), (3, 1)):
            row = tuple((hand, 5 + hand) for hand in range(many))
            met = set()
            chance = random.Random(855)
            for number in range(4000):
                weaving = [chance.randrange(many) for _ in range(8 * many)]
                held = {}
                acting = Acting(tuple(value for _, value in row), in_rounds(many, rounds, lambda corner: held.update([corner]) or 1))
                acting.led(tuple(weaving) + tuple(range(many)) * (2 * many * rounds + 2))
                met.add(tuple(sorted(held.items())))
                if len(met) == len(plain_facets(row, rounds)):
                    break
            self.assertEqual(met, set(plain_facets(row, rounds)))

    def test_tables_do_their_tasks(self):
        chance = random.Random(856)
        for task, rounds, answer in TABLES:
            told = {corner: answer(corner) for corner in corners_of(task, rounds)}
            self.assertTrue(is_table(task, rounds, told))
            values = sorted({value for row in task.inputs() for _, value in row})
            for _ in range(40):
                own = tuple(chance.choice(values) for _ in range(task.many))
                acting = Acting(own, in_rounds(task.many, rounds, lambda corner: told[corner]))
                going = chance.sample(range(task.many), chance.randint(1, task.many))
                took = set()
                for _ in range(chance.randint(1, 40)):
                    hand = chance.choice(going)
                    acting.step(hand)
                    took.add(hand)
                    row = tuple((one, own[one]) for one in sorted(took))
                    answers = tuple(acting.answers().items())
                    if answers:
                        self.assertTrue(may_answer(task, row, answers))
                for hand in took:
                    for _ in range(2 * rounds * task.many + 2):
                        acting.step(hand)
                    self.assertIn(hand, acting.answers())

    def test_rules_against_families(self):
        # MAIN HEART: a table of the plain task of power(family) hands, carried by all hands.
        chance = random.Random(857)
        families = [stops(3, 1), stops(5, 2), stops(6, 1), closed(Family(4, [(0, 1), (2, 3)])), stops(2, 0), stops(6, 2)]
        for family in families:
            number = power(family)
            for plain, rounds, answer in plain_tables(number):
                rule = carried(family, in_rounds(number, rounds, answer))
                for _ in range(15):
                    self.check_done(chance, family, plain, rule)

    def check_done(self, chance, family, plain, rule):
        values = tuple(chance.choice([bag[0] for bag in plain.table() if len(bag) == 1]) for _ in range(family.many))
        if tuple(sorted(set(values))) not in plain.table():
            return
        acting, took = Acting(values, rule), set()
        going = chance.choice(family.sets)
        for at in range(60 * family.many):
            hand = chance.choice(going) if at > 30 else chance.randrange(family.many)
            acting.step(hand)
            took.add(hand)
            told = tuple(sorted(set(acting.answers().values())))
            if told:
                self.assertTrue(plain.may(tuple(sorted({values[one] for one in took})), told))
        for hand in going:
            self.assertIn(hand, acting.answers())

    def test_hosts_do_what_guests_do(self):
        # A rule of many hands against a family is run by as many hosts as its power, which never wait.
        chance = random.Random(858)
        for family in (stops(3, 1), stops(4, 2), closed(Family(3, [(0,), (1, 2)])), stops(5, 0)):
            number = power(family)
            for plain, rounds, answer in plain_tables(number):
                rule = carried(family, in_rounds(number, rounds, answer))
                for _ in range(3):
                    values = tuple(chance.choice([bag[0] for bag in plain.table() if len(bag) == 1]) for _ in range(number))
                    if tuple(sorted(set(values))) not in plain.table():
                        continue
                    hosts, took = Hosts(values, family.many, rule), set()
                    last = chance.randrange(number)
                    for at in range(3000):
                        host = chance.randrange(number) if at < 100 else last
                        hosts.step(host)
                        took.add(host)
                        told = tuple(sorted(set(hosts.answers().values())))
                        if told:
                            self.assertTrue(plain.may(tuple(sorted({values[one] for one in took})), told))
                        if host in hosts.answers() and at > 100:
                            break
                    self.assertIn(last, hosts.answers())

    def test_rounds_by_looks_by_rounds(self):
        # Rounds gone through by looks, which are told by other rounds ([43]): the task is done still.
        for task, top in ((near(2, 3), 3), (on_web(2, 3, WEB), 2)):
            told = {corner: near_answer(2, 1, corner) if top == 3 else web_answer(2, 3, WEB, 1, corner) for corner in corners_of(task, 1)}
            rule = in_rounds(2, 1, lambda corner: told[corner])

            def answer(hand, known):
                # In a round a hand does two looks at most; the first number is its answer.
                looks = [looks for one, _, looks in known if one == hand][0]
                return [number for number in (rule(hand, knew(2, hand, known, hand, count)) for count in range(1, len(looks) + 1))
                        if number is not None][0]
            for row in task.inputs():
                for course in plain_courses(tuple(hand for hand, _ in row), 4):
                    ends = plain_end(row, course)
                    answers = tuple((hand, by_looks(answer, 2, 2, (hand, ends[hand]))) for hand in ends)
                    self.assertIn(answers, task.answers(row))

    def test_few_answers_against_families(self):
        for family in (stops(3, 1), stops(3, 2), closed(Family(2, [(0,), (1,)]))):
            for values in (1, 2, 3):
                for most in (1, 2, 3):
                    wanted = most >= min(power(family), values)
                    self.assertEqual(few_rounds(power(family), values, most) is not None, wanted)
                    task = few(power(family), tuple(range(values)), most)
                    self.assertEqual(plain_of(task).task(power(family)), task)


def own_value(rounds):
    """Who answers at once, its own value."""
    def answer(corner):
        view = corner[1]
        for _ in range(rounds):
            view = dict(view)[corner[0]]
        return view
    return answer


WEB = ((0, 1), (1, 2))
TABLES = [
    (near(2, 3), 1, lambda corner: near_answer(2, 1, corner)),
    (near(2, 5), 2, lambda corner: near_answer(2, 2, corner)),
    (near(3, 2), 1, lambda corner: near_answer(3, 1, corner)),
    (on_web(3, 3, WEB), 1, lambda corner: web_answer(3, 3, WEB, 1, corner)),
    (few(3, (0, 1, 2), 3), 1, own_value(1)),
    (few(4, (0, 1), 4), 1, own_value(1)),
    (agreement(3, (4,)), 2, own_value(2)),
    (few(2, (3, 5), 2), 0, own_value(0)),
]


def plain_tables(number):
    """Triples of a Plain, rounds and what to answer in a table of its task for so many hands."""
    found = [(plain_of(few(number, tuple(range(4)), number)), 1 if number < 4 else 0, own_value(1 if number < 4 else 0))]
    if number < 4:
        found.append((plain_of(near(number, 2)), 1, lambda corner: near_answer(number, 1, corner)))
        found.append((plain_of(on_web(number, 3, WEB)), 1, lambda corner: web_answer(number, 3, WEB, 1, corner)))
    return found
