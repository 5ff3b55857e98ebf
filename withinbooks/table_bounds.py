"""Least tables of a bounded size, of arguments that have been checked."""

from withinbooks.closures import closed_list
from withinbooks.errors import TooMany
from withinbooks.marks import MANY
from withinbooks.paths import all_jobs

MOST_CARDS = 120
MOST_PAIRS = 200


def bounded_cards(ledger, manual):
    """The numbers of the cards of a manual's least table; TooMany if they are more than 120."""
    numbers = closed_list(ledger, all_jobs(manual), MOST_CARDS)
    if len(numbers) > MOST_CARDS:
        raise TooMany(MOST_CARDS)
    return numbers


def bounded_pairs(ledger, jobs):
    """The numbers that expressions of some jobs have in a ledger; TooMany if they are more than 200."""
    numbers = closed_list(ledger, jobs, MOST_PAIRS)
    if len(numbers) > MOST_PAIRS:
        raise TooMany(MOST_PAIRS)
    return numbers


def growing_numbers(ledger, numbers):
    """Those of the numbers of some cards that have the value "many"."""
    return [number for number in numbers if ledger.mark_of(number) == MANY]
