"""Mending books by corrections (points 96 to 101)."""

from withinbooks.checks import check_book
from withinbooks.crowds import is_done
from withinbooks.errors import InvalidBook, InvalidCount, InvalidMending
from withinbooks.manuals import Manual, check_both, check_manual
from withinbooks.mended import mending_parts, shortest_unmendable
from withinbooks.menders import Mender, is_any_best, mended_book, nothing_to_mend, step_rows
from withinbooks.rests import least_purse
from withinbooks.shapes import are_unlike, has_book_form, is_count
from withinbooks.walks import shortest_harder

MOST_MANY = 12


def mended_by(book, mending):
    """The book that a mending of a book makes."""
    check_book(book)
    rows = step_rows(book, mending)
    if rows is None:
        raise InvalidMending(mending)
    return mended_book(rows)


def _check_stops(stops):
    if not has_book_form(stops) or not are_unlike(stops):
        raise InvalidBook(stops)


def _check_mending_asked(manual, stops, book):
    check_manual(manual)
    _check_stops(stops)
    check_book(book)


def corrections(manual, stops, book):
    """The least need of a mending of a book that keeps the stops, None if there is none."""
    _check_mending_asked(manual, stops, book)
    return Mender(manual, stops).least(book)


def best_mending(manual, stops, book):
    """A mending of a book with the least need that keeps the stops, None if there is none."""
    _check_mending_asked(manual, stops, book)
    return Mender(manual, stops).best(book)


def is_best_mending(manual, stops, book, value):
    """Whether any object is a mending of a book with the least need that keeps the stops."""
    _check_mending_asked(manual, stops, book)
    return is_any_best(manual, stops, book, value)


def _check_editions(elder, newer, stops):
    check_both(elder, newer)
    _check_stops(stops)


def _mending_manual(elder, newer, stops):
    manners, beginnings, ends = mending_parts(elder, newer, stops)
    return Manual(manners, beginnings, ends)


def mends(elder, newer, stops):
    """The manual that needs for the books of the elder manual what their mendings for the newer one need."""
    _check_editions(elder, newer, stops)
    return _mending_manual(elder, newer, stops)


def most_corrections(elder, newer, stops):
    """The least need with which every book of the elder manual that has a mending has one, None if none is enough."""
    _check_editions(elder, newer, stops)
    most = least_purse(_mending_manual(elder, newer, stops))
    empty = nothing_to_mend(elder, newer, stops)
    if most is None or empty is None:
        return most
    return max(most, empty)


def _check_many_asked(elder, newer, stops, many):
    _check_editions(elder, newer, stops)
    if not is_count(many) or many > MOST_MANY:
        raise InvalidCount(many)


def _shortest_unmended(elder, newer, stops, many):
    empty = nothing_to_mend(elder, newer, stops)
    if empty is not None and empty > many:
        return []
    return shortest_harder(_mending_manual(elder, newer, stops), many)


def unmended(elder, newer, stops, many):
    """A shortest book of the elder manual that has a mending, but none with at most so great a need, or None."""
    _check_many_asked(elder, newer, stops, many)
    return _shortest_unmended(elder, newer, stops, many)


def is_unmended(elder, newer, stops, many, value):
    """Whether any object is such a book as unmended returns."""
    _check_many_asked(elder, newer, stops, many)
    if not has_book_form(value) or not is_done(elder, value):
        return False
    need = Mender(newer, stops).least(value)
    return need is not None and need > many and len(value) == len(_shortest_unmended(elder, newer, stops, many))


def _shortest_unmendable(elder, newer, stops):
    return shortest_unmendable(elder, newer, stops, _mending_manual(elder, newer, stops))


def unmendable(elder, newer, stops):
    """A shortest book of the elder manual that has no mending at all for the newer one, None if there is none."""
    _check_editions(elder, newer, stops)
    return _shortest_unmendable(elder, newer, stops)


def is_unmendable(elder, newer, stops, value):
    """Whether any object is such a book as unmendable returns."""
    _check_editions(elder, newer, stops)
    if not has_book_form(value) or not is_done(elder, value) or Mender(newer, stops).least(value) is not None:
        return False
    return len(value) == len(_shortest_unmendable(elder, newer, stops))
