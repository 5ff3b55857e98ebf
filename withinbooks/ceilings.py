"""The books of expressions and their ceilings (points 51 to 53)."""

from withinbooks.above import least_ceiling, shortest_above, shortest_top
from withinbooks.agains import check_manual_and_expression
from withinbooks.checks import check_book, check_count
from withinbooks.purses import least_need
from withinbooks.shapes import has_book_form
from withinbooks.unrolled import is_book_in


def is_book_of(manual, expression, book):
    """Whether a book is one of the books of an expression."""
    check_manual_and_expression(manual, expression)
    check_book(book)
    return is_book_in(manual, expression, book)


def ceiling(manual, expression):
    """The least purse that serves all books of an expression that can be done, None if no purse does."""
    check_manual_and_expression(manual, expression)
    return least_ceiling(manual, expression)


def top_book(manual, expression):
    """A shortest book of an expression that needs just its ceiling, None if there is none."""
    check_manual_and_expression(manual, expression)
    return shortest_top(manual, expression)


def is_top_book(manual, expression, value):
    """Whether any object is a shortest book of an expression that needs just its ceiling."""
    check_manual_and_expression(manual, expression)
    if not has_book_form(value) or not is_book_in(manual, expression, value):
        return False
    top = shortest_top(manual, expression)
    if top is None or len(value) != len(top):
        return False
    return least_need(manual, value) == least_need(manual, top)


def book_above(manual, expression, purse):
    """A shortest book of an expression that can be done and needs more than a purse, None if there is none."""
    check_manual_and_expression(manual, expression)
    check_count(purse)
    return shortest_above(manual, expression, purse)


def is_book_above(manual, expression, purse, value):
    """Whether any object is a shortest book of an expression that can be done and needs more than a purse."""
    check_manual_and_expression(manual, expression)
    check_count(purse)
    if not has_book_form(value) or not is_book_in(manual, expression, value):
        return False
    need = least_need(manual, value)
    return need is not None and need > purse and len(value) == len(shortest_above(manual, expression, purse))
