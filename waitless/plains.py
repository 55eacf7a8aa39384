"""Plain tasks: which values may be answered together, whoever has them; and rounds gone through by looks."""

from waitless.asking import ask_many, ask_rounds
from waitless.blocks import choose
from waitless.errors import BadBag, BadCount, BadPlain, TooMany
from waitless.judging import HANDS_MOST, is_from, is_list, is_rising, is_value
from waitless.making import all_rows, INPUTS_MOST, rows_within, values_in
from waitless.pictures import ways_to_stand
from waitless.rows import by_length, hands_in, one_less
from waitless.rules import told_by
from waitless.tables import TABLE_ROUNDS_MOST
from waitless.tasks import ask_task, Task


class Plain:
    """A task of values alone: bags of inputs, and the bags that may be answered to them."""

    def __init__(self, table):
        if not is_plain_table(table):
            raise BadPlain("a table is a dict from bags, with all their parts, to bags that greater ones go on with")
        self._answers = {bag: greatest_bags(table[bag]) for bag in sorted(table, key=by_length)}

    def __eq__(self, other):
        return isinstance(other, Plain) and self._answers == other._answers

    def table(self):
        """The dict from the bags, ascending by length, to the tuples of their answers that are part of no other."""
        return {bag: self._answers[bag] for bag in self._answers}

    def may(self, bag, thing):
        """Whether thing, of any value, is a part of an answer to bag."""
        if not is_bag(bag) or bag not in self._answers:
            raise BadBag("the bag is no key of the plain task")
        return is_bag(thing) and is_part_of_one(thing, self._answers[bag])

    def task(self, count):
        """The Task of so many hands whose inputs have the values of a key, and whose answers those of an answer."""
        if not is_from(count, 1, HANDS_MOST):
            raise BadCount("there are from 1 to 4 hands")
        if inputs_many(self._answers, count) > INPUTS_MOST:
            raise TooMany(INPUTS_MOST)
        return task_with(self._answers, count)


def plain_of(task):
    """The Plain, with bags of task.many numbers at most, of which task is the task; None if there is none."""
    ask_task(task)
    table = {}
    for row in task.inputs():
        table.setdefault(values_in(row), [])
        if len(row) == task.many and len(table[values_in(row)]) == 0:
            bags = {values_in(answer): True for answer in task.answers(row)}
            table[values_in(row)] = list(bags)
    if not is_plain_table(table) or inputs_many(table, task.many) != len(task.inputs()):
        return None
    if task_with({bag: greatest_bags(table[bag]) for bag in table}, task.many) == task:
        return Plain(table)
    return None


def in_rounds(many, rounds, answer):
    """The rule by which hands go through rounds, and answer by what they have seen then."""
    ask_many(many)
    ask_rounds(rounds, TABLE_ROUNDS_MOST)

    def rule(hand, known):
        values, looks = told_by(known)
        view = view_gone_to(many, rounds, hand, values, looks)
        if view is None:
            return None
        return answer((hand, view))

    return rule


def is_bag(thing):
    """Whether thing is an ascending tuple of one or more unlike numbers that may stand in a row."""
    if not isinstance(thing, tuple) or len(thing) == 0:
        return False
    return all([is_value(value) for value in thing]) and is_rising(thing)


def is_plain_table(table):
    """Whether table is a dict from bags, with all their parts, to answers that greater bags go on with."""
    if not isinstance(table, dict) or len(table) == 0 or not all([is_bag(bag) for bag in table]):
        return False
    if not all([are_bags(bags) for bags in table.values()]):
        return False
    for bag in table:
        # One number less is enough: what that bag's answers are part of is part of those of greater ones, too.
        for lesser in one_less(bag):
            if lesser not in table or not all([is_part_of_one(some, table[bag]) for some in table[lesser]]):
                return False
    return True


def are_bags(thing):
    """Whether thing is a list of one or more unlike bags."""
    if not is_list(thing) or len(thing) == 0 or not all([is_bag(bag) for bag in thing]):
        return False
    return len(set(thing)) == len(thing)


def is_part_of_one(bag, bags):
    """Whether all numbers of bag stand in one of bags."""
    return any([all([value in other for value in bag]) for other in bags])


def greatest_bags(bags):
    """The ascending tuple of those of bags that are part of no other one."""
    found = []
    for bag in sorted(bags):
        if not is_part_of_one(bag, [other for other in bags if other != bag]):
            found.append(bag)
    return tuple(found)


def inputs_many(table, count):
    """How many rows of hands below count have the values of a key of table."""
    ways = {}
    for size in range(1, count + 1):
        ways[size] = sum([choose(count, hands) * ways_to_stand(hands, size) for hands in range(1, count + 1)])
    return sum([ways[len(bag)] for bag in table if len(bag) <= count])


def task_with(table, count):
    """The Task of so many hands that table makes."""
    told = {}
    for bag in table:
        if len(bag) <= count:
            for row in all_rows(count, bag):
                if values_in(row) == bag:
                    told[row] = rows_within(hands_in(row), table[bag])
    return Task(count, told)


class Going:
    """How far a hand has come behind some of its looks: its round, its level there, and where it has been.

    views are its value, and its views of the rounds that it has ended; lowest has, of each round that it has begun, the
    lowest level that it has been on.
    """

    def __init__(self, views, lowest):
        self.views = views
        self.lowest = lowest


def view_gone_to(many, rounds, hand, values, looks):
    """The view with which hand has ended all rounds by what is known; None if it hasn't, or has not looked."""
    if len(looks[hand]) == 0:
        return None
    goings = {other: [Going((values[other],), (many,))] for other in looks}
    line = sorted([(sum(look), other, look) for other in looks for look in looks[other]])
    for _, other, look in line:
        goings[other].append(gone_on(many, rounds, other, look, goings))
    views = goings[hand][-1].views
    if len(views) <= rounds:
        return None
    return views[rounds]


def gone_on(many, rounds, hand, look, goings):
    """Where hand stands behind a look, goings being where all known hands stood behind their looks ahead of it."""
    own = goings[hand][-1]
    number = len(own.views)
    if number > rounds:
        return own
    level = own.lowest[-1]
    counted = []
    for other in sorted(goings):
        if look[other] > 0:
            there = goings[other][look[other] - 1]
            if len(there.lowest) >= number and there.lowest[number - 1] <= level:
                counted.append((other, there.views[number - 1]))
    if len(counted) == level:
        return Going(own.views + (tuple(counted),), own.lowest + (many,))
    return Going(own.views, own.lowest[:-1] + (level - 1,))
