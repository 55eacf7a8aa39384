"""Rules: hands that put all they know into one memory and look at it by turns, and when they answer."""

from waitless.errors import BadCount, BadHand, BadKnown, BadOther, BadSaying, BadValues, BadWeaving
from waitless.families import ask_family_many, MANY_MOST
from waitless.judging import are_steps_of, is_from, is_number, is_one_of, is_rising, is_value


class Acting:
    """Hands with values that do as rule tells, and how far each of them has come."""

    def __init__(self, values, rule):
        ask_hand_values(values, MANY_MOST)
        self._values = values
        self._rule = rule
        self._puts = [0 for _ in values]
        self._looks = [() for _ in values]
        self._answers = {}

    def step(self, hand):
        """The next step of hand is done, and told by a word."""
        self._ask_hand(hand)
        if self._puts[hand] == len(self._looks[hand]):
            self._puts[hand] += 1
            return "put"
        # Whoever has answered has ended with the put behind.
        if hand in self._answers:
            return "end"
        looks = list(self._looks)
        looks[hand] = looks[hand] + (tuple(self._puts),)
        told = said(self._rule, hand, known_behind(self._values, looks, hand, len(looks[hand])))
        self._looks = looks
        if told is not None:
            self._answers[hand] = told
        return "look"

    def led(self, weaving):
        """The steps of weaving are done, one after another."""
        if not are_steps_of(tuple(range(len(self._values))), weaving):
            raise BadWeaving("a weaving is a tuple of the hands")
        for hand in weaving:
            self.step(hand)

    def known(self, hand):
        """What hand knows."""
        self._ask_hand(hand)
        return known_behind(self._values, self._looks, hand, len(self._looks[hand]))

    def answers(self):
        """The dict from the hands that have answered to their answers."""
        return {hand: self._answers[hand] for hand in sorted(self._answers)}

    def _ask_hand(self, hand):
        if not is_from(hand, 0, len(self._values) - 1):
            raise BadHand("the hand is none of those with values")


def is_known(many, hand, thing):
    """Whether hand, of so many, can know just thing, of any value."""
    ask_family_many(many)
    ask_hand_below(many, hand)
    return can_be_known(many, hand, thing)


def knew(many, hand, known, other, number):
    """What other knew behind so many of its looks, as hand knows."""
    ask_family_many(many)
    ask_hand_below(many, hand)
    ask_known(many, hand, known)
    if not is_one_of(other, [triple[0] for triple in known]):
        raise BadOther("the other hand does not stand in what is known")
    values, looks = told_by(known)
    if not is_from(number, 0, len(looks[other])):
        raise BadCount("a number from 0 to the number of looks that are known is asked for")
    return known_behind(values, looks, other, number)


def weaving_to(many, hand, known):
    """A weaving behind which hand knows known, if no rule answers."""
    ask_family_many(many)
    ask_hand_below(many, hand)
    ask_known(many, hand, known)
    looks = told_by(known)[1]
    return tuple(weaving_with(many, looks)[0])


def ask_hand_values(values, most):
    """BadValues unless values is a tuple of one or more values, at most so many."""
    right = isinstance(values, tuple) and 1 <= len(values) <= most
    if not right or not all([is_value(value) for value in values]):
        raise BadValues(f"values are a tuple of one to {most} numbers")


def ask_hand_below(many, hand):
    """BadHand unless hand is one of so many."""
    if not is_from(hand, 0, many - 1):
        raise BadHand("a hand is a number below many")


def ask_known(many, hand, known):
    """BadKnown unless hand can know this."""
    if not can_be_known(many, hand, known):
        raise BadKnown("no weaving lets the hand know this")


def said(rule, hand, known):
    """What rule returns; BadSaying(hand) unless it is None or a number that may be answered."""
    told = rule(hand, known)
    if told is not None and not is_value(told):
        raise BadSaying(hand)
    return told


def known_behind(values, looks, hand, number):
    """What hand knows behind so many of its looks; values and looks are told by hands."""
    if number == 0:
        return ((hand, values[hand], ()),)
    last = looks[hand][number - 1]
    known = []
    for other in range(len(last)):
        if other == hand:
            known.append((hand, values[hand], tuple(looks[hand][:number])))
        elif last[other] > 0:
            # By its put of number p a hand lays down what it knew behind p - 1 looks.
            known.append((other, values[other], tuple(looks[other][:last[other] - 1])))
    return tuple(known)


def told_by(known):
    """The pair of the dicts from the hands in what is known to their values and to their looks."""
    return ({triple[0]: triple[1] for triple in known}, {triple[0]: triple[2] for triple in known})


def can_be_known(many, hand, thing):
    """Whether hand, of so many, can know just thing."""
    if not isinstance(thing, tuple) or not 1 <= len(thing) <= many:
        return False
    if not all([is_triple_known(many, item) for item in thing]):
        return False
    looks = told_by(thing)[1]
    if not is_rising([triple[0] for triple in thing]) or hand not in looks:
        return False
    shown = [0 for _ in range(many)]
    for other in looks:
        shown[other] = len(looks[other]) + 1
    shown[hand] = len(looks[hand])
    if len(looks[hand]) == 0:
        return len(thing) == 1
    return looks[hand][-1] == tuple(shown) and are_in_line([look for other in looks for look in looks[other]])


def is_triple_known(many, thing):
    """Whether thing is a triple of a hand of so many, a value and looks, the hand's own puts counted through."""
    if not isinstance(thing, tuple) or len(thing) != 3 or not is_from(thing[0], 0, many - 1):
        return False
    hand, value, looks = thing
    if not is_value(value) or not isinstance(looks, tuple) or not all([is_look(many, look) for look in looks]):
        return False
    return all([look[hand] == at + 1 for at, look in enumerate(looks)])


def is_look(many, thing):
    """Whether thing is a tuple of a number from 0 on for each of so many hands."""
    if not isinstance(thing, tuple) or len(thing) != many:
        return False
    return all([is_number(puts) and puts >= 0 for puts in thing])


def are_in_line(looks):
    """Whether of any two looks one has no number above the other's."""
    line = sorted(looks, key=sum)
    # Once they stand by their sums, each must only be held against the next one.
    return all([is_no_more(line[at], line[at + 1]) for at in range(len(line) - 1)])


def is_no_more(one, other):
    """Whether the look one has no number above that of the look other."""
    return all([first <= second for first, second in zip(one, other)])


def weaving_with(many, looks):
    """The pair of the list of steps by which hands have just these looks, told by hands, and the list of the puts."""
    line = sorted([(sum(look), hand, look) for hand in looks for look in looks[hand]])
    puts = [0 for _ in range(many)]
    steps = []
    for _, hand, look in line:
        for other in range(many):
            # The looks between two puts of a hand stand ahead of each look that shows the later one.
            steps.extend([other] * (look[other] - puts[other]))
            puts[other] = look[other]
        steps.append(hand)
    return (steps, puts)
