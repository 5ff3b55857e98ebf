"""Expressions: doing something again and again (points 33 to 37)."""

from withinbooks.checks import check_card, check_count, check_expression
from withinbooks.expressions import ledger_number, leaves_of, nesting_of
from withinbooks.ledgers import CardLedger
from withinbooks.manuals import check_manual, check_manuals
from withinbooks.marks import MANY, NEVER, again_card, coded_card, is_steady_card, power_of, told_card
from withinbooks.purses import least_need
from withinbooks.shapes import has_expression_form
from withinbooks.writings import book_written, size_written


def _check_manual_and_card(manual, card):
    check_manual(manual)
    check_card(manual, card)


def check_manual_and_expression(manual, expression):
    """InvalidManual, then InvalidExpression."""
    check_manual(manual)
    check_expression(expression, False)


def _check_writing_asked(manuals, expression, number):
    check_manuals(manuals)
    check_expression(expression, False)
    check_count(number)


def is_steady(manual, card):
    """Whether a card put behind itself is itself."""
    _check_manual_and_card(manual, card)
    return is_steady_card(coded_card(card))


def steady_power(manual, card):
    """The least number of copies of a card that put behind one another are a steady card."""
    _check_manual_and_card(manual, card)
    return power_of(coded_card(card))


def again(manual, card):
    """The card of doing again and again what has a card."""
    _check_manual_and_card(manual, card)
    return told_card(again_card(coded_card(card)))


def is_expression(value):
    """Whether any object is an expression, without places."""
    return has_expression_form(value, False)


def jobs_in(expression):
    """The ascending list of the jobs of an expression; places may stand in it."""
    check_expression(expression, True)
    return sorted(set(leaves_of(expression)))


def nesting(expression):
    """The greatest number of agains of an expression that stand one within the other; places may stand in it."""
    check_expression(expression, True)
    return nesting_of(expression)


def expression_card(manual, expression):
    """The card of an expression."""
    check_manual_and_expression(manual, expression)
    ledger = CardLedger(manual)
    return ledger.told(ledger_number(ledger, expression))


def kind_of(manual, expression):
    """Whether an expression "grows" for a manual, is "bounded", or can "never" be done."""
    check_manual_and_expression(manual, expression)
    ledger = CardLedger(manual)
    mark = ledger.mark_of(ledger_number(ledger, expression))
    if mark == NEVER:
        return "never"
    if mark == MANY:
        return "grows"
    return "bounded"


def written(manuals, expression, number):
    """The book that is an expression written for a number."""
    _check_writing_asked(manuals, expression, number)
    return book_written(manuals, expression, number)


def written_size(manuals, expression, number):
    """How many jobs the book has that is an expression written for a number."""
    _check_writing_asked(manuals, expression, number)
    return size_written(manuals, expression, number)


def shows_growth(manual, expression, number):
    """The need of an expression written for a number, and whether it is greater than the number."""
    check_manual_and_expression(manual, expression)
    check_count(number)
    need = least_need(manual, book_written([manual], expression, number))
    if need is None:
        return (None, False)
    return (need, need > number)
