"""Cells: hands that work out rounds on written cells, one write or one read a step."""

from waitless.asking import ask_rounds, ask_row
from waitless.errors import BadCells, BadHand, BadMoment, BadWeaving
from waitless.judging import are_steps_of, is_from, is_one_of
from waitless.rows import hands_in


class Cells:
    """The cells of the hands of row for so many rounds, and how far each hand has come."""

    def __init__(self, row, rounds):
        ask_row(row)
        ask_rounds(rounds)
        self.row = row
        self.rounds = rounds
        self.many = len(row)
        self._hands = hands_in(row)
        self._cells = [{hand: None for hand in self._hands} for _ in range(rounds)]
        self._views = {pair[0]: [pair[1]] for pair in row}
        self._heights = {hand: self.many + 1 for hand in self._hands}
        self._found = {hand: [] for hand in self._hands}
        # How many cells the hand has read since it wrote; all of them if a write is next.
        self._reads = {hand: self.many for hand in self._hands}
        self._done = []

    def step(self, hand):
        """The next step of hand is done and told; None if it has ended all rounds."""
        self._ask_hand(hand)
        number = len(self._views[hand])
        if number > self.rounds:
            return None
        self._done.append(hand)
        if self._reads[hand] == self.many:
            return self._write(hand, number)
        return self._read(hand, number)

    def run(self, weaving):
        """A step is done for each hand of weaving, in sequence."""
        if not are_steps_of(self._hands, weaving):
            raise BadWeaving("a weaving is a tuple of hands of the row")
        for hand in weaving:
            self.step(hand)

    def view(self, hand, moment):
        """The view of hand of the round of this moment, None as long as it has not ended it."""
        self._ask_hand(hand)
        self._ask_moment(moment, 0)
        if moment < len(self._views[hand]):
            return self._views[hand][moment]
        return None

    def ended(self, hand):
        """How many rounds hand has ended."""
        self._ask_hand(hand)
        return len(self._views[hand]) - 1

    def steps(self, hand):
        """How many steps hand has done."""
        self._ask_hand(hand)
        return self._done.count(hand)

    def level(self, hand, moment):
        """The level in the cell of hand of the round of this moment, None if it is empty."""
        self._ask_hand(hand)
        self._ask_moment(moment, 1)
        pair = self._cells[moment - 1][hand]
        if pair is None:
            return None
        return pair[1]

    def found(self, hand):
        """The list of what hand has read since it last wrote."""
        self._ask_hand(hand)
        return list(self._found[hand])

    def weaving(self):
        """The tuple of the hands of all steps done."""
        return tuple(self._done)

    def twin(self):
        """Other Cells in which all is as in these."""
        other = Cells(self.row, self.rounds)
        other._cells = [{hand: cells[hand] for hand in cells} for cells in self._cells]
        other._views = {hand: list(self._views[hand]) for hand in self._hands}
        other._heights = {hand: self._heights[hand] for hand in self._hands}
        other._found = {hand: list(self._found[hand]) for hand in self._hands}
        other._reads = {hand: self._reads[hand] for hand in self._hands}
        other._done = list(self._done)
        return other

    def _write(self, hand, number):
        self._heights[hand] -= 1
        self._cells[number - 1][hand] = (self._views[hand][-1], self._heights[hand])
        self._found[hand] = []
        self._reads[hand] = 0
        return ("write", number, self._heights[hand])

    def _read(self, hand, number):
        whose = self._hands[self._reads[hand]]
        found = self._cells[number - 1][whose]
        self._found[hand].append(found)
        self._reads[hand] += 1
        if self._reads[hand] == self.many:
            self._count(hand)
        return ("read", number, whose, found)

    def _count(self, hand):
        height = self._heights[hand]
        told = [(whose, pair) for whose, pair in zip(self._hands, self._found[hand]) if pair is not None]
        counted = tuple([(whose, pair[0]) for whose, pair in told if pair[1] <= height])
        if len(counted) == height:
            self._views[hand].append(counted)
            self._heights[hand] = self.many + 1

    def _ask_hand(self, hand):
        if not is_one_of(hand, self._hands):
            raise BadHand("the hand is none of the row's")

    def _ask_moment(self, moment, first):
        if not is_from(moment, first, self.rounds):
            raise BadMoment("a moment is a number of a round, or 0 for the beginning")


def ask_cells(cells):
    """BadCells unless cells is a Cells."""
    if not isinstance(cells, Cells):
        raise BadCells("this is no Cells")


def ask_round_number(cells, moment):
    """BadMoment unless moment is the number of a round of cells."""
    if not is_from(moment, 1, cells.rounds):
        raise BadMoment("a moment is a number from 1 to rounds")
