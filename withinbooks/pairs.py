"""Pairs of cards of two manuals, of arguments that have been checked."""

from withinbooks.cheapest import cheapest_to
from withinbooks.closures import closed_list
from withinbooks.expressions import ledger_number
from withinbooks.ledgers import PairLedger
from withinbooks.paths import all_jobs
from withinbooks.shapes import has_expression_form
from withinbooks.table_bounds import bounded_pairs


def jobs_of_both(elder, newer):
    """The ascending list of the jobs of either manual."""
    return sorted(set(all_jobs(elder) + all_jobs(newer)))


class Pairs:
    """The least pair table of two manuals; TooMany if it has more than 200 pairs."""

    def __init__(self, elder, newer):
        self.ledger = PairLedger(elder, newer)
        self.numbers = bounded_pairs(self.ledger, jobs_of_both(elder, newer))

    def bad_ones(self):
        """The numbers of the bad pairs."""
        return [number for number in self.numbers if self.ledger.is_bad(number)]

    def told(self, numbers):
        """The ascending list of the pairs with some numbers."""
        return sorted([self.ledger.told(number) for number in numbers])

    def is_calm(self):
        """Whether no pair is bad."""
        return not self.bad_ones()

    def is_calm_over(self, jobs):
        """Whether no pair of rows and agains of some of the jobs alone is bad."""
        numbers = closed_list(self.ledger, jobs, None)
        return not any([self.ledger.is_bad(number) for number in numbers])

    def is_calm_turned(self):
        """Whether no pair is bad with the two manuals exchanged."""
        return not any([self.ledger.turned_bad(number) for number in self.numbers])

    def escape_over(self, jobs):
        """An escape with as few of some jobs as can be, None if there is none."""
        goals = {number: True for number in self.bad_ones()}
        return cheapest_to(self.ledger, jobs, goals)


def is_any_escape(elder, newer, value):
    """Whether any object is an escape."""
    if not has_expression_form(value, False):
        return False
    ledger = PairLedger(elder, newer)
    return ledger.is_bad(ledger_number(ledger, value))
