"""Rests of a purse, and the least purse (points 45 to 49)."""

from withinbooks.checks import check_book, check_count, check_word
from withinbooks.errors import InvalidRests, TooMany
from withinbooks.ledgers import CardLedger
from withinbooks.manuals import check_manual
from withinbooks.paths import all_jobs, all_rooms
from withinbooks.purses import least_need
from withinbooks.rest_rows import NOWHERE, RestRows, all_rest_rows, coded_rests, moves_of
from withinbooks.rest_rows import row_behind_moves, row_of_book, told_rests
from withinbooks.shapes import are_unlike, has_book_form, has_rests_form
from withinbooks.table_bounds import bounded_cards, growing_numbers
from withinbooks.walks import least_serving, shortest_harder, shortest_served

MOST_PURSE = 40


def _check_manual_and_purse(manual, purse):
    check_manual(manual)
    check_count(purse)


def rests_of(manual, purse, book):
    """The rests that a book leaves of a purse."""
    _check_manual_and_purse(manual, purse)
    check_book(book)
    return told_rests(row_of_book(manual, purse, book))


def rests_behind(manual, purse, left, job):
    """The rests behind one job more."""
    _check_manual_and_purse(manual, purse)
    if not has_rests_form(left, len(all_rooms(manual)), purse):
        raise InvalidRests(left)
    check_word(job)
    return told_rests(row_behind_moves(coded_rests(left), moves_of(manual, purse).get(job, []), NOWHERE))


def rest_list(manual, purse):
    """The list of the rests of all books, in the order of the first books that leave them."""
    _check_manual_and_purse(manual, purse)
    return [told_rests(row) for row in all_rest_rows(manual, purse).rows]


def rest_table(manual, purse):
    """A rest table, None if there is none."""
    _check_manual_and_purse(manual, purse)
    rests = all_rest_rows(manual, purse)
    if any([rests.is_bad(number) for number in range(len(rests.rows))]):
        return None
    return [told_rests(row) for row in rests.rows]


def is_rest_table(manual, purse, value):
    """Whether any object is a rest table."""
    _check_manual_and_purse(manual, purse)
    size = len(all_rooms(manual))
    if not isinstance(value, list) or not all([has_rests_form(left, size, purse) for left in value]):
        return False
    rests = RestRows(manual, purse, NOWHERE)
    numbers = [rests.enter(coded_rests(left)) for left in value]
    if 0 not in numbers or not are_unlike(value) or any([rests.is_bad(number) for number in numbers]):
        return False
    known = {number: True for number in numbers}
    return all([rests.behind(number, job) in known for number in numbers for job in all_jobs(manual)])


def harder_book(manual, purse):
    """A shortest book that can be done and needs more than a purse, None if there is none."""
    _check_manual_and_purse(manual, purse)
    return shortest_harder(manual, purse)


def is_harder_book(manual, purse, value):
    """Whether any object is a shortest book that can be done and needs more than a purse."""
    _check_manual_and_purse(manual, purse)
    if not has_book_form(value):
        return False
    need = least_need(manual, value)
    return need is not None and need > purse and len(value) == len(shortest_harder(manual, purse))


def _bounded_purse(manual):
    ledger = CardLedger(manual)
    if growing_numbers(ledger, bounded_cards(ledger, manual)):
        return None
    purse = least_serving(manual, MOST_PURSE)
    if purse is None:
        raise TooMany(MOST_PURSE)
    return purse


def least_purse(manual):
    """The least purse that serves every book that can be done, None if no purse does."""
    check_manual(manual)
    return _bounded_purse(manual)


def _shortest_hardest(manual, purse):
    if purse is None:
        return None
    if purse == 0:
        return shortest_served(manual, 0)
    return shortest_harder(manual, purse - 1)


def hardest_book(manual):
    """A shortest book whose need is the least purse, None if there is no such purse or no book can be done."""
    check_manual(manual)
    return _shortest_hardest(manual, _bounded_purse(manual))


def is_hardest_book(manual, value):
    """Whether any object is a shortest book whose need is the least purse."""
    check_manual(manual)
    purse = _bounded_purse(manual)
    if purse is None or not has_book_form(value) or least_need(manual, value) != purse:
        return False
    return len(value) == len(_shortest_hardest(manual, purse))
