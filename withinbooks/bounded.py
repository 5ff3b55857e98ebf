"""Bounds of what the newer manual needs, of arguments that have been checked."""

from withinbooks.closures import closed_list
from withinbooks.doing_tables import shortest_missed
from withinbooks.ledgers import CardLedger
from withinbooks.paths import all_jobs
from withinbooks.purses import least_need
from withinbooks.table_bounds import growing_numbers
from withinbooks.walks import least_serving, shortest_served, shortest_unserved, some_unserved

MOST_BOUND = 40


def least_bound(elder, newer, purse):
    """The least purse of at most 40 that serves in the newer manual all that a purse serves in the elder one.

    None if none of these does.
    """
    if some_unserved(elder, newer, purse, MOST_BOUND) is not None:
        return None
    low, high = 0, MOST_BOUND
    while low < high:
        middle = (low + high) // 2
        book = some_unserved(elder, newer, purse, middle)
        if book is None:
            high = middle
        else:
            low = least_need(newer, book)
    return low


def shortest_at_bound(elder, newer, purse, bound):
    """A shortest book that a purse serves in the elder manual and that needs just the bound in the newer one."""
    if bound is None:
        return None
    if bound == 0:
        return shortest_served(elder, purse)
    return shortest_unserved(elder, newer, purse, bound - 1)


def serving_all(manual):
    """The least purse that serves every book that can be done, None if no purse does."""
    ledger = CardLedger(manual)
    if growing_numbers(ledger, closed_list(ledger, all_jobs(manual), None)):
        return None
    return least_serving(manual, None)


def telling_purses(elder, newer):
    """How many purses tell whether some book needs more in the newer manual, None if none tell it.

    If a purse serves all books of one of the manuals, a book needs more just if the newer
    one does not do it, or if up to this purse some purse serves it in the elder one alone.
    """
    purses = [serving_all(elder), serving_all(newer)]
    known = [purse for purse in purses if purse is not None]
    if not known:
        return None
    return min(known) + 1


def shortest_more(elder, newer, many):
    """A shortest book that the newer manual does not do, or with a greater need than the elder one."""
    books = [shortest_missed(elder, newer)]
    for purse in range(many):
        books.append(shortest_unserved(elder, newer, purse, purse))
    return min([book for book in books if book is not None], key=len, default=None)
