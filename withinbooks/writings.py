"""Expressions written for a number, of arguments that have been checked.

So often as `times` tells, the least number of copies of a body that are steady in each
ledger is written for an again.
"""

from withinbooks.errors import TooMany
from withinbooks.expressions import ledger_number
from withinbooks.ledgers import CardLedger
from withinbooks.paths import all_rooms

MOST_WRITTEN = 400


def common_power(ledgers, expression):
    """The least number of copies of an expression that put behind one another are steady in each ledger."""
    cards = [ledger_number(ledger, expression) for ledger in ledgers]
    made = cards
    power = 1
    while not all([ledger.is_steady(card) for ledger, card in zip(ledgers, made)]):
        made = [ledger.behind(one, card) for ledger, one, card in zip(ledgers, made, cards)]
        power += 1
    return power


def times_for(manuals, number):
    """How often the copies of an again are written for a number."""
    return (number + 1) * max([1] + [len(all_rooms(manual)) for manual in manuals])


def size_in(ledgers, times, expression):
    """How many jobs a written expression has."""
    if isinstance(expression, str):
        return 1
    if expression[0] == "row":
        return sum([size_in(ledgers, times, part) for part in expression[1]])
    size = size_in(ledgers, times, expression[1])
    if size == 0:
        return 0
    return size * times * common_power(ledgers, expression[1])


def book_in(ledgers, times, expression):
    """The book that is a written expression."""
    if isinstance(expression, str):
        return [expression]
    if expression[0] == "row":
        return [job for part in expression[1] for job in book_in(ledgers, times, part)]
    body = book_in(ledgers, times, expression[1])
    # Of nothing there may be more copies than a list can be multiplied by.
    if not body:
        return []
    return body * (times * common_power(ledgers, expression[1]))


def size_written(manuals, expression, number):
    """How many jobs the book has that is an expression written for a number."""
    ledgers = [CardLedger(manual) for manual in manuals]
    return size_in(ledgers, times_for(manuals, number), expression)


def book_written(manuals, expression, number):
    """The book that is an expression written for a number; TooMany if it has more than 400 jobs."""
    if size_written(manuals, expression, number) > MOST_WRITTEN:
        raise TooMany(MOST_WRITTEN)
    ledgers = [CardLedger(manual) for manual in manuals]
    return book_in(ledgers, times_for(manuals, number), expression)
