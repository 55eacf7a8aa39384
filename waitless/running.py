"""Runners: tables on written cells."""

from waitless.asking import ask_rounds
from waitless.cells import Cells
from waitless.errors import BadRounds
from waitless.pictures import ask_few_facets
from waitless.rows import hands_in, part_with
from waitless.tables import ask_table, TABLE_ROUNDS_MOST
from waitless.tasks import ask_input, ask_task


class Runner:
    """A table on the cells of the input row: who has ended all rounds answers what it tells."""

    def __init__(self, task, rounds, table, row):
        ask_task(task)
        ask_rounds(rounds, TABLE_ROUNDS_MOST)
        if rounds == 0:
            raise BadRounds("nobody takes a step in no rounds")
        ask_few_facets(task.inputs(), rounds)
        ask_table(task, rounds, table)
        ask_input(task, row)
        self.cells = Cells(row, rounds)
        self._table = {corner: table[corner] for corner in table}

    def step(self, hand):
        """The next step of hand is done and told, as the cells do."""
        return self.cells.step(hand)

    def answers(self):
        """The dict from the hands that have ended all rounds to what they answer."""
        rounds = self.cells.rounds
        found = {}
        for hand in hands_in(self.cells.row):
            if self.cells.ended(hand) == rounds:
                found[hand] = self._table[(hand, self.cells.view(hand, rounds))]
        return found

    def taking_part(self):
        """The part of the row of the hands that took a step, () if none did."""
        hands = [hand for hand in hands_in(self.cells.row) if self.cells.steps(hand) > 0]
        return part_with(self.cells.row, hands)
