"""Guests: hosts that never wait do together what guests would do, by agreements on all that a guest sees."""

from waitless.errors import BadGuests, BadHost
from waitless.families import ask_family_many
from waitless.judging import is_from
from waitless.rules import ask_hand_values, known_behind, said, weaving_with

HOSTS_MOST = 4


class Host:
    """Where a host stands: what it does next, at which agreement, and what it keeps."""

    def __init__(self, value):
        self.value = value
        self.word = "find"
        self.guest = None
        self.number = None
        self.wish = None
        self.kept = []
        # The guest from which on it looks for the next one, and the agreements that it has opened.
        self.first = 0
        self.opened = {}


class Hosts:
    """Hosts with values that do what so many guests would do by rule, and what they have laid down."""

    def __init__(self, values, many, rule):
        ask_hand_values(values, HOSTS_MOST)
        ask_family_many(many)
        self._many = many
        self._rule = rule
        self._hosts = [Host(value) for value in values]
        self._laid = [[] for _ in range(many)]
        # For each agreement the hosts that have it open, and the wishes of those that closed it.
        self._openers = {}
        self._closers = {}
        self._answers = {}
        # How many looks of each guest rule was asked of, without an answer up to the last one.
        self._asked = [0 for _ in range(many)]
        self._said = [None for _ in range(many)]

    def step(self, host):
        """The next step of host is done, and told as a triple of a word, a guest and a number."""
        if not is_from(host, 0, len(self._hosts) - 1):
            raise BadHost("the host is none of those with values")
        one = self._hosts[host]
        if one.word == "end":
            return ("end", None, None)
        if one.word == "find":
            return self._find(host, one)
        if one.word == "tell":
            self._put_down(one)
            one.word = "find"
            return ("tell", None, None)
        return self._go_through(host, one)

    def answers(self):
        """The dict from the hosts that have answered to their answers."""
        return {host: self._answers[host] for host in sorted(self._answers)}

    def laid(self):
        """The tuple with, for each guest, the tuple of what is agreed and laid down."""
        return tuple([tuple(agreed) for agreed in self._laid])

    def held(self):
        """The dict from the guests whose next agreement some host has open to the tuples of these hosts."""
        found = {}
        for guest in range(self._many):
            openers = self._openers.get(self._next_of(guest), [])
            if len(openers) > 0:
                found[guest] = tuple(sorted(openers))
        return found

    def run(self):
        """A weaving of the guests with just the looks that are laid down."""
        looks = {guest: self._laid[guest][1:] for guest in range(self._many)}
        steps, puts = weaving_with(self._many, looks)
        for guest in range(self._many):
            steps.extend([guest] * (len(self._laid[guest]) - puts[guest]))
        return tuple(steps)

    def _find(self, host, one):
        """A look at all: host answers, or comes to what it opens or tells next."""
        for guest in range(self._many):
            self._ask_guest(guest)
            if self._said[guest] is not None:
                one.word = "end"
                self._answers[host] = self._said[guest]
                return ("answer", guest, len(self._laid[guest]) - 1)
        settled = {}
        for guest in range(self._many):
            agreement = self._next_of(guest)
            # An agreement can be opened only once those ahead of it are laid down, so that no later one is settled.
            if agreement in self._closers and len(self._openers[agreement]) == 0:
                wishes = self._closers[agreement]
                settled[agreement] = wishes[min(wishes)]
        one.kept = [(agreement, settled[agreement]) for agreement in settled]
        for at in range(self._many):
            agreement = self._next_of((one.first + at) % self._many)
            if agreement not in settled and agreement not in one.opened:
                return self._begin(one, agreement)
        if len(one.kept) > 0:
            one.word = "tell"
        return ("find", None, None)

    def _begin(self, one, agreement):
        """A host has found the agreement that it opens next."""
        one.guest, one.number = agreement
        one.word = "open"
        one.wish = one.value
        if one.number > 0:
            one.wish = tuple([len(agreed) for agreed in self._laid])
        return ("find", one.guest, one.number)

    def _go_through(self, host, one):
        """The next step of host at the agreement that it has found."""
        agreement = (one.guest, one.number)
        word = one.word
        if word == "open":
            self._openers.setdefault(agreement, []).append(host)
            self._put_down(one)
            one.opened[agreement] = True
            one.first = (one.guest + 1) % self._many
            one.word = "look"
        elif word == "look":
            one.word = "close"
            if agreement in self._closers:
                one.word = "leave"
        else:
            self._openers[agreement].remove(host)
            if word == "close":
                self._closers.setdefault(agreement, {})[host] = one.wish
            one.word = "find"
        return (word, one.guest, one.number)

    def _put_down(self, one):
        """What a host keeps is laid down."""
        for agreement, agreed in one.kept:
            # Another host may have laid it down by now, the same.
            if agreement == self._next_of(agreement[0]):
                self._laid[agreement[0]].append(agreed)
        one.kept = []

    def _next_of(self, guest):
        """The first agreement on guest that isn't laid down."""
        return (guest, len(self._laid[guest]))

    def _ask_guest(self, guest):
        """The rule is asked what guest says behind its looks that are laid down, as far as it wasn't."""
        while self._asked[guest] < len(self._laid[guest]) - 1 and self._said[guest] is None:
            number = self._asked[guest] + 1
            values = {other: self._laid[other][0] for other in range(self._many) if len(self._laid[other]) > 0}
            looks = [agreed[1:] for agreed in self._laid]
            self._said[guest] = said(self._rule, guest, known_behind(values, looks, guest, number))
            self._asked[guest] = number


def holding(many, guests):
    """A weaving of hosts behind which each holds up the one of guests that has its number, and nothing else is held."""
    ask_family_many(many)
    if not are_guests(many, guests):
        raise BadGuests("guests are a tuple of one to four unlike numbers below many")
    weaving = []
    # All go from guest to guest side by side, so that none lays down more than values and no guest ever answers.
    for guest in range(max(guests) + 1):
        here = [host for host in range(len(guests)) if guests[host] >= guest]
        further = [host for host in here if guests[host] > guest]
        weaving.extend(here + here + further + further)
    return tuple(weaving)


def are_guests(many, thing):
    """Whether thing is a tuple of one to four unlike ones of so many guests."""
    if not isinstance(thing, tuple) or not 1 <= len(thing) <= HOSTS_MOST:
        return False
    return all([is_from(guest, 0, many - 1) for guest in thing]) and len(set(thing)) == len(thing)
