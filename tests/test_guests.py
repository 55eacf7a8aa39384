"""[84]: hosts that do what guests would do."""

import itertools
import random
import time

from tests.helping import NO_NUMBERS, Case, kinds
from tests.test_rules import NO_MANY, NO_VALUES, never, some_rule
from waitless.errors import BadGuests, BadHost, BadMany, BadSaying, BadValues
from waitless.families import closed, Family, stops
from waitless.guests import Hosts, holding
from waitless.powers import power
from waitless.rules import Acting, is_known
from waitless.waits import carried, home, waiting

MANY_VALUES = NO_VALUES + [(1, 2, 3, 4, 5)]


def no_hosts(count):
    """Values that are none of so many hosts."""
    return NO_NUMBERS + [-1, count, count + 1, 10 ** 30, "0", (0,), [0], 0.0]


class PlainHosts:
    """The same, each host with its own part of what all can look at, as the document tells it."""

    def __init__(self, values, many, rule):
        self.values, self.many, self.rule = values, many, rule
        # Each host's part: what it has laid down, and for each agreement "open" or "closed" with its wish.
        self.down = [{} for _ in values]
        self.parts = [{} for _ in values]
        self.next = ["find"] * len(values)
        self.at, self.kept, self.wish = [None] * len(values), [{} for _ in values], [None] * len(values)
        self.first, self.opened = [0] * len(values), [set() for _ in values]
        self.leaving, self.answers = [False] * len(values), {}

    def laid(self):
        found = {}
        for part in self.down:
            for agreement, agreed in part.items():
                assert found.setdefault(agreement, agreed) == agreed
        rows = []
        for guest in range(self.many):
            count = len([1 for one, _ in found if one == guest])
            rows.append(tuple(found[guest, number] for number in range(count)))
        return tuple(rows)

    def settled(self):
        found = {}
        for agreement in {one for part in self.parts for one in part}:
            states = [part.get(agreement, ("", None)) for part in self.parts]
            closers = [wish for state, wish in states if state == "closed"]
            if closers and not any(state == "open" for state, _ in states):
                found[agreement] = closers[0]
        return found

    def said(self, guest):
        laid = self.laid()
        for number in range(1, len(laid[guest])):
            look = laid[guest][number]
            known = [(other, laid[other][0], laid[other][1:look[other]]) for other in range(self.many)
                     if look[other] and other != guest] + [(guest, laid[guest][0], laid[guest][1:number + 1])]
            told = self.rule(guest, tuple(sorted(known)))
            if told is not None:
                return told
        return None

    def step(self, host):
        word = self.next[host]
        if word == "end":
            return ("end", None, None)
        if word == "find":
            return self.find(host)
        if word == "tell":
            self.down[host].update(self.kept[host])
            self.next[host] = "find"
            return ("tell", None, None)
        agreement = self.at[host]
        if word == "open":
            self.parts[host][agreement] = ("open", self.wish[host])
            self.down[host].update(self.kept[host])
            self.opened[host].add(agreement)
            self.first[host] = agreement[0] + 1
            self.next[host] = "look"
        elif word == "look":
            closed_by = any(part.get(agreement, ("", None))[0] == "closed" for part in self.parts)
            self.next[host] = "leave" if closed_by else "close"
        else:
            self.parts[host][agreement] = ("closed", self.wish[host]) if word == "close" else ("left", None)
            self.next[host] = "find"
        return (word,) + agreement

    def find(self, host):
        laid = self.laid()
        for guest in range(self.many):
            if self.said(guest) is not None:
                self.answers[host] = self.said(guest)
                self.next[host] = "end"
                return ("answer", guest, len(laid[guest]) - 1)
        settled = self.settled()
        down = {(guest, number) for guest in range(self.many) for number in range(len(laid[guest]))}
        self.kept[host] = {one: settled[one] for one in settled if one not in down}
        for at in range(self.many):
            guest = (self.first[host] + at) % self.many
            agreement = (guest, len(laid[guest]))
            if agreement not in settled and agreement not in self.opened[host]:
                self.at[host] = agreement
                self.wish[host] = tuple(map(len, laid)) if agreement[1] else self.values[host]
                self.next[host] = "open"
                return ("find",) + agreement
        if self.kept[host]:
            self.next[host] = "tell"
        return ("find", None, None)

    def held(self):
        found = {}
        for guest, agreed in enumerate(self.laid()):
            hosts = tuple(host for host, part in enumerate(self.parts) if part.get((guest, len(agreed)), ("",))[0] == "open")
            if hosts:
                found[guest] = hosts
        return found


def some_hosts(chance, number):
    values = tuple(chance.randint(0, 5) for _ in range(chance.randint(1, 4)))
    rule = chance.choice([never, never, some_rule(number), lambda hand, known: None if len(known[0][2]) < 3 else 7])
    return values, chance.randint(1, 6), rule


class Guests(Case):
    def check_main_heart(self, hosts, values, many, rule, before):
        laid = hosts.laid()
        for one, other in zip(before, laid):
            self.assertEqual(one, other[:len(one)])
        weaving = hosts.run()
        self.assertEqual([weaving.count(guest) for guest in range(many)], [max(2 * len(one) - 1, 0) for one in laid])
        agreed = tuple(one[0] if one else 0 for one in laid)
        self.assertLessEqual({one[0] for one in laid if one}, set(values))
        asked = []
        acting = Acting(agreed, lambda hand, known: asked.append((hand, known)) or rule(hand, known))
        acting.led(weaving)
        for guest in range(many):
            looks = [looks for hand, _, looks in acting.known(guest) if hand == guest][0]
            self.assertEqual(kinds(looks), kinds(laid[guest][1:]))
        for answer in hosts.answers().values():
            self.assertIn(answer, acting.answers().values())
        return asked

    def test_by_hand(self):
        hosts = Hosts(values=(5, 8), many=2, rule=never)
        self.assertEqual((hosts.laid(), hosts.held(), hosts.answers(), hosts.run()), (((), ()), {}, {}, ()))
        self.assertEqual([hosts.step(0) for _ in range(4)], [("find", 0, 0), ("open", 0, 0), ("look", 0, 0), ("close", 0, 0)])
        self.assertEqual([hosts.step(host=0) for _ in range(2)], [("find", 1, 0), ("open", 1, 0)])
        self.assertEqual((hosts.laid(), hosts.held(), hosts.run()), (((5,), ()), {1: (0,)}, (0,)))
        # Host 1 finds guest 0 first, whose first look is its next agreement.
        self.assertEqual([hosts.step(1) for _ in range(4)], [("find", 0, 1), ("open", 0, 1), ("look", 0, 1), ("close", 0, 1)])
        self.assertEqual(hosts.step(1), ("find", 1, 0))
        self.assertEqual([hosts.step(0) for _ in range(2)], [("look", 1, 0), ("close", 1, 0)])
        self.assertEqual([hosts.step(1) for _ in range(3)], [("open", 1, 0), ("look", 1, 0), ("leave", 1, 0)])
        self.assertEqual(hosts.laid(), ((5, (1, 0)), ()))
        self.assertEqual([hosts.step(0) for _ in range(2)], [("find", 0, 2), ("open", 0, 2)])
        self.assertEqual(hosts.laid(), ((5, (1, 0)), (5,)))
        self.assertEqual(sorted(hosts.run()), [0, 0, 0, 1])
        # The wish was made when guest 1 had nothing laid down.
        self.assertEqual([hosts.step(0)[0] for _ in range(2)], ["look", "close"])
        self.assertEqual([hosts.step(0) for _ in range(2)], [("find", 1, 1), ("open", 1, 1)])
        self.assertEqual(hosts.laid(), ((5, (1, 0), (2, 0)), (5,)))
        self.assertEqual(hosts.held(), {1: (0,)})

    def test_an_answer_ends_a_host(self):
        hosts = Hosts((5, 8), 1, lambda hand, known: 3)
        self.assertEqual([hosts.step(0)[0] for _ in range(10)],
                         ["find", "open", "look", "close", "find", "tell", "find", "open", "look", "close"])
        self.assertEqual([hosts.step(0) for _ in range(4)],
                         [("find", None, None), ("tell", None, None), ("answer", 0, 1), ("end", None, None)])
        self.assertEqual(hosts.answers(), {0: 3})
        self.assertEqual([hosts.step(1) for _ in range(2)], [("answer", 0, 1), ("end", None, None)])
        self.assertEqual(list(hosts.answers().items()), [(0, 3), (1, 3)])

    def test_against_the_document_step_by_step(self):
        chance = random.Random(841)
        for number in range(250):
            values, many, rule = some_hosts(chance, number)
            hosts, plain = Hosts(values, many, rule), PlainHosts(values, many, rule)
            for _ in range(chance.randint(1, 150)):
                host = chance.randrange(len(values))
                for _ in range(chance.choice((1, 1, 2, 6))):
                    self.assertEqual(hosts.step(host), plain.step(host))
            self.assertEqual(kinds(hosts.laid()), kinds(plain.laid()))
            self.assertEqual(kinds(hosts.held()), kinds(plain.held()))
            self.assertEqual(kinds(hosts.answers()), kinds(dict(sorted(plain.answers.items()))))

    def test_every_weaving_of_two_hosts(self):
        for rule, many, length in ((never, 1, 14), (lambda hand, known: 4 if len(known[0][2]) > 1 else None, 1, 14), (never, 2, 13)):
            for weaving in itertools.product((0, 1), repeat=length - 3):
                hosts = Hosts((5, 8), many, rule)
                before = hosts.laid()
                for host in weaving + (0, 0, 1):
                    hosts.step(host)
                self.check_main_heart(hosts, (5, 8), many, rule, before)
                self.assertLessEqual(len(hosts.held()), 2)

    def test_main_heart(self):
        chance = random.Random(842)
        for number in range(120):
            values, many, rule = some_hosts(chance, number)
            asked = []
            hosts = Hosts(values, many, lambda hand, known: asked.append((hand, known)) or rule(hand, known))
            place = [None] * len(values)
            for _ in range(chance.randint(1, 25)):
                before, host = hosts.laid(), chance.randrange(len(values))
                for _ in range(chance.choice((1, 2, 3, 9))):
                    word, guest, _ = hosts.step(host)
                    place[host] = guest if word in ("open", "look") else None
                again = self.check_main_heart(hosts, values, many, rule, before)
                self.assertLessEqual({kinds(one) for one in asked}, {kinds(one) for one in again})
                for guest, openers in hosts.held().items():
                    for one in openers:
                        self.assertEqual(place[one], guest)
            for guest, known in asked:
                self.assertTrue(is_known(many, guest, known))

    def test_a_host_alone_goes_on(self):
        chance = random.Random(843)
        for number in range(200):
            values, many, _ = some_hosts(chance, number)
            hosts = Hosts(values, many, never)
            for _ in range(chance.randint(0, 80)):
                hosts.step(chance.randrange(len(values)))
            host, before = chance.randrange(len(values)), hosts.laid()
            held = [guest for guest, openers in hosts.held().items() if set(openers) - {host}]
            for _ in range(4 * many + 5):
                hosts.step(host)
            for guest in range(many):
                if guest not in held:
                    self.assertGreater(len(hosts.laid()[guest]), len(before[guest]))

    def test_a_bad_saying_does_nothing(self):
        for saying in (True, -1, 10 ** 9, "1", 1.0, ()):
            told = {"say": saying}
            hosts = Hosts((5, 8), 2, lambda hand, known: told["say"] if hand == 1 else None)
            for _ in range(40):
                before = (hosts.laid(), hosts.held(), hosts.answers(), hosts.run())
                try:
                    hosts.step(0)
                except BadSaying as raised:
                    self.assertEqual(raised.hand, 1)
                    break
            else:
                self.fail("the rule was not asked")
            for host in (0, 0, 1):
                if host == 1:
                    self.assertEqual(self.told(BadSaying, hosts.step, 1).hand, 1)
                else:
                    self.assertEqual(self.told(BadSaying, hosts.step, 0).hand, 1)
                self.assertEqual((hosts.laid(), hosts.held(), hosts.answers(), hosts.run()), before)
            told["say"] = 6
            self.assertEqual(hosts.step(0), ("answer", 1, 1))
            self.assertEqual(hosts.step(1), ("answer", 1, 1))
            self.assertEqual(hosts.answers(), {0: 6, 1: 6})

    def test_the_least_guest_is_followed(self):
        hosts = Hosts((5,), 3, lambda hand, known: 10 + hand if hand > 0 else None)
        steps = [hosts.step(0) for _ in range(60)]
        self.assertEqual([step for step in steps if step[0] == "answer"], [("answer", 1, 1)])
        self.assertEqual(hosts.answers(), {0: 11})

    def test_holding(self):
        chance = random.Random(844)
        for many in range(1, 7):
            for size in range(1, min(many, 4) + 1):
                for guests in itertools.permutations(range(many), size):
                    weaving = self.same(holding, "many guests", many, guests)
                    self.assertLessEqual(set(weaving), set(range(size)))
                    rule = chance.choice([never, lambda hand, known: 1, some_rule(many)])
                    values = tuple(chance.randint(0, 9) for _ in range(chance.randint(size, 4)))
                    hosts = Hosts(values, many, rule)
                    for host in weaving:
                        hosts.step(host)
                    self.assertEqual(hosts.held(), {guest: (guests.index(guest),) for guest in sorted(guests)})
                    self.assertEqual(list(hosts.held()), sorted(guests))
                    if rule is never and size < len(values):
                        # All other guests go on for ever, by whoever is left.
                        before = hosts.laid()
                        for _ in range(4 * many + 5):
                            hosts.step(size)
                        stopped = {guest for guest in range(many) if len(hosts.laid()[guest]) == len(before[guest])}
                        self.assertEqual(stopped, set(guests))

    def test_who_goes_on_is_a_set_of_the_family(self):
        chance = random.Random(845)
        for _ in range(40):
            many = chance.randint(1, 5)
            family = closed(Family(many, sorted({tuple(sorted(chance.sample(range(many), chance.randint(1, many))))
                                                 for _ in range(chance.randint(1, 4))})))
            number = min(power(family), 4)
            hosts = Hosts(tuple(range(number)), many, never)
            for _ in range(60):
                hosts.step(chance.randrange(number))
            going = chance.randrange(number)
            before = hosts.laid()
            for _ in range(3 * (4 * many + 5)):
                hosts.step(going)
            self.assertTrue(family.holds(tuple(guest for guest in range(many)
                                               if len(hosts.laid()[guest]) > len(before[guest]) + 1)))

    def test_hosts_of_waiting_answer(self):
        chance = random.Random(846)
        families = [stops(many, most) for many in range(1, 7) for most in range(min(many, 4))]
        families += [closed(Family(4, [(0, 1), (2,)])), closed(Family(6, [(0, 1), (2, 3), (4, 5)]))]
        for family in families:
            number = power(family)
            self.assertLessEqual(number, 4)
            limit = 4 * (family.many + 2) * (number + 1)
            for _ in range(8):
                hosts = Hosts(tuple(range(10, 10 + number)), family.many, waiting(family))
                steps, stopped = [0] * number, set()
                while any(host not in hosts.answers() and host not in stopped for host in range(number)):
                    host = chance.choice([host for host in range(number) if host not in hosts.answers() and host not in stopped])
                    for _ in range(chance.choice((1, 2, 5))):
                        hosts.step(host)
                        steps[host] += 1
                    if chance.random() < 0.02 and len(stopped) < number - 1:
                        stopped.add(host)
                    self.assertTrue(host in hosts.answers() or steps[host] <= limit)
                self.assertLessEqual(len(set(hosts.answers().values())), number)
                self.assertLessEqual(set(hosts.answers().values()), set(range(10, 10 + number)))

    def test_carried_rules_of_hosts(self):
        family = stops(5, 1)
        rule = carried(family, lambda hand, known: known[0][1] if len(known) == 2 else None)
        hosts = Hosts((3, 4), 5, rule)
        for at in range(400):
            hosts.step(at % 2)
        self.assertEqual(set(hosts.answers()), {0, 1})
        self.assertLessEqual(set(hosts.answers().values()), {3, 4})
        self.assertEqual(home(family), (0, 1))

    def test_nothing_is_tied_to_the_inside(self):
        hosts = Hosts((5, 8), 2, never)
        for host in holding(2, (0, 1)):
            hosts.step(host)
        hosts.held().clear()
        hosts.answers()[0] = 1
        self.assertEqual((hosts.held(), hosts.answers()), ({0: (0,), 1: (1,)}, {}))
        self.assertIsInstance(hosts.laid(), tuple)
        self.assertNotEqual(hosts, Hosts((5, 8), 2, never))

    def test_wrong_parameters(self):
        self.wrong(Hosts, [(5, 8), 2, never], (BadValues, MANY_VALUES), (BadMany, NO_MANY), (BadMany, []))
        no_guests = [None, True, 0, [0], (), (0, 0), (True,), (0, False), (3,), (-1,), ("0",), (0, 1, 2, 0), {0: 1}, (0.0,),
                     (0, 3), (0, -1), (0, "1"), (0, True), (0, 2.0), (0, None), (3, 0)]
        self.wrong(holding, [3, (0, 2)], (BadMany, NO_MANY), (BadGuests, no_guests))
        self.told(BadGuests, holding, 6, (0, 1, 2, 3, 4))
        self.assertEqual(Hosts((1, 2, 3, 4), 1, never).answers(), {})

    def test_what_is_no_host(self):
        for values in ((3,), (5, 8), (5, 8, 2), (1, 2, 3, 4)):
            for rule in (never, None):
                hosts = Hosts(values, 6, rule)
                for host in no_hosts(len(values)):
                    self.told(BadHost, hosts.step, host)
                    self.told(BadHost, hosts.step, host=host)
                self.assertEqual((hosts.laid(), hosts.held(), hosts.answers(), hosts.run()), (((),) * 6, {}, {}, ()))
                self.assertEqual(hosts.step(len(values) - 1), ("find", 0, 0))

    def test_what_is_no_host_does_nothing_after_some_steps(self):
        chance = random.Random(848)
        words = set()
        for number in range(60):
            values, many, rule = some_hosts(chance, number)
            hosts, other = Hosts(values, many, rule), Hosts(values, many, rule)
            for _ in range(chance.randint(1, 90)):
                told = (hosts.laid(), hosts.held(), hosts.answers(), hosts.run())
                for host in chance.sample(no_hosts(len(values)), 3) + [len(values)]:
                    self.told(BadHost, hosts.step, host)
                    self.told(BadHost, hosts.step, host=host)
                self.assertEqual(kinds((hosts.laid(), hosts.held(), hosts.answers(), hosts.run())), kinds(told))
                host = chance.randrange(len(values))
                step = other.step(host)
                words.add(step[0])
                # What was refused is as if it had never been called.
                self.assertEqual(hosts.step(host), step)
        self.assertEqual(words, {"find", "open", "look", "close", "leave", "tell", "answer", "end"})

    def test_what_is_no_host_is_told_ahead_of_a_bad_saying(self):
        hosts = Hosts((5,), 1, lambda hand, known: True)
        while len(hosts.laid()[0]) < 2:
            hosts.step(0)
        self.told(BadSaying, hosts.step, 0)
        for host in no_hosts(1):
            self.told(BadHost, hosts.step, host)
        self.told(BadSaying, hosts.step, 0)

    def test_four_hosts_and_six_guests(self):
        begun = time.monotonic()
        chance = random.Random(847)
        hosts = Hosts((1, 2, 3, 4), 6, never)
        for _ in range(4000):
            hosts.step(chance.randrange(4))
        self.check_main_heart(hosts, (1, 2, 3, 4), 6, never, ((),) * 6)
        self.assertGreater(min(map(len, hosts.laid())), 10)
        self.assertLess(time.monotonic() - begun, 60)
