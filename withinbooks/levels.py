"""The cards of a manual by the nesting that they need, of arguments that have been checked."""

from withinbooks.cheapest import cheapest_in, expression_in, first_level, levels_of
from withinbooks.ledgers import CardLedger
from withinbooks.paths import all_jobs
from withinbooks.table_bounds import bounded_cards, growing_numbers


class CardLevels:
    """The least table of a manual, with a spread for each nesting; TooMany if it has more than 120 cards."""

    def __init__(self, manual):
        self.ledger = CardLedger(manual)
        self.numbers = bounded_cards(self.ledger, manual)
        self.spreads = levels_of(self.ledger, all_jobs(manual), len(self.numbers))

    def growing_ones(self):
        """The numbers of the cards of expressions that grow."""
        return growing_numbers(self.ledger, self.numbers)

    def nesting_to(self, numbers):
        """The least nesting with which one of some numbers is made, None if none is."""
        return first_level(self.spreads, numbers)

    def expression_to(self, numbers):
        """An expression of the least nesting, then with the fewest jobs, that has one of some numbers.

        It is None if none is made.
        """
        nesting = self.nesting_to(numbers)
        if nesting is None:
            return None
        spreads = self.spreads[:nesting + 1]
        return expression_in(spreads, cheapest_in(spreads[-1].costs, numbers))
