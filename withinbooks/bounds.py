"""Purses in the newer edition for books that a purse serves in the elder one (points 57 to 60)."""

from withinbooks.bounded import least_bound, shortest_at_bound, shortest_more, telling_purses
from withinbooks.cheapest import cheapest_to
from withinbooks.checks import check_count
from withinbooks.errors import Refused
from withinbooks.expressions import has_jobs_of, ledger_number
from withinbooks.manuals import check_both
from withinbooks.paths import all_jobs
from withinbooks.purses import is_served, least_need
from withinbooks.shapes import has_book_form, has_expression_form
from withinbooks.steps import StepLedger
from withinbooks.table_bounds import bounded_pairs
from withinbooks.walks import shortest_unserved


def _check_purse_asked(elder, newer, purse):
    check_both(elder, newer)
    check_count(purse)


def unserved_book(elder, newer, purse, other):
    """A shortest book that a purse serves in the elder edition, and another one does not in the newer one."""
    _check_purse_asked(elder, newer, purse)
    check_count(other)
    return shortest_unserved(elder, newer, purse, other)


def is_unserved_book(elder, newer, purse, other, value):
    """Whether any object is such a book as unserved_book returns."""
    _check_purse_asked(elder, newer, purse)
    check_count(other)
    if not has_book_form(value) or not is_served(elder, value, purse) or is_served(newer, value, other):
        return False
    return len(value) == len(shortest_unserved(elder, newer, purse, other))


def bound_at(elder, newer, purse):
    """The least purse of at most 40 that serves in the newer edition all that a purse serves in the elder one."""
    _check_purse_asked(elder, newer, purse)
    return least_bound(elder, newer, purse)


def hardest_at(elder, newer, purse):
    """A shortest book that the purse serves in the elder edition and that needs just the bound in the newer one."""
    _check_purse_asked(elder, newer, purse)
    return shortest_at_bound(elder, newer, purse, least_bound(elder, newer, purse))


def is_hardest_at(elder, newer, purse, value):
    """Whether any object is such a book as hardest_at returns."""
    _check_purse_asked(elder, newer, purse)
    bound = least_bound(elder, newer, purse)
    if bound is None or not has_book_form(value) or not is_served(elder, value, purse):
        return False
    return least_need(newer, value) == bound and len(value) == len(shortest_at_bound(elder, newer, purse, bound))


def outrun(elder, newer, purse):
    """An expression with as few jobs as can be that outruns the elder edition at a purse, None if none does."""
    _check_purse_asked(elder, newer, purse)
    ledger = StepLedger(elder, newer, purse)
    numbers = bounded_pairs(ledger, all_jobs(elder))
    goals = {number: True for number in numbers if ledger.is_goal(number)}
    return cheapest_to(ledger, all_jobs(elder), goals)


def is_outrun(elder, newer, purse, value):
    """Whether any object is an expression that outruns the elder edition at a purse."""
    _check_purse_asked(elder, newer, purse)
    if not has_expression_form(value, False) or not has_jobs_of(value, all_jobs(elder)):
        return False
    ledger = StepLedger(elder, newer, purse)
    number = ledger_number(ledger, value)
    return number is not None and ledger.is_goal(number)


def _many_purses(elder, newer):
    many = telling_purses(elder, newer)
    if many is None:
        raise Refused(elder)
    return many


def never_more(elder, newer):
    """Whether the newer edition does each book that the elder one does, with no greater need."""
    check_both(elder, newer)
    return shortest_more(elder, newer, _many_purses(elder, newer)) is None


def more_book(elder, newer):
    """A shortest book that the newer edition does not do, or does with a greater need than the elder one."""
    check_both(elder, newer)
    return shortest_more(elder, newer, _many_purses(elder, newer))


def is_more_book(elder, newer, value):
    """Whether any object is such a book as more_book returns."""
    check_both(elder, newer)
    many = _many_purses(elder, newer)
    if not has_book_form(value):
        return False
    need, other = least_need(elder, value), least_need(newer, value)
    if need is None or (other is not None and other <= need):
        return False
    return len(value) == len(shortest_more(elder, newer, many))
