"""Tables of cards: whether one purse serves every book (points 40 to 44)."""

from withinbooks.checks import check_card
from withinbooks.closures import is_closed
from withinbooks.errors import InvalidCard
from withinbooks.expressions import has_jobs_of, ledger_number, nesting_of
from withinbooks.ledgers import CardLedger
from withinbooks.levels import CardLevels
from withinbooks.manuals import check_manual
from withinbooks.paths import all_jobs, all_rooms
from withinbooks.shapes import has_card_form, has_expression_form, is_ascending
from withinbooks.table_bounds import bounded_cards, growing_numbers


def _told_table(ledger, numbers):
    return sorted([ledger.told(number) for number in numbers])


def least_table(manual):
    """The table all cards of which stand in every table."""
    check_manual(manual)
    ledger = CardLedger(manual)
    return _told_table(ledger, bounded_cards(ledger, manual))


def _table_numbers(ledger, manual, value):
    """The numbers of the cards of any object, None if it is no table."""
    size = len(all_rooms(manual))
    if not isinstance(value, list) or not all([has_card_form(card, size) for card in value]):
        return None
    numbers = [ledger.enter_told(card) for card in value]
    if not is_ascending(value) or not is_closed(ledger, all_jobs(manual), numbers):
        return None
    return numbers


def is_table(manual, value):
    """Whether any object is a table of a manual."""
    check_manual(manual)
    return _table_numbers(CardLedger(manual), manual, value) is not None


def one_purse(manual):
    """Whether one purse serves every book that can be done."""
    check_manual(manual)
    ledger = CardLedger(manual)
    return not growing_numbers(ledger, bounded_cards(ledger, manual))


def calm_table(manual):
    """A table no card of which has the value "many", None if there is none."""
    check_manual(manual)
    ledger = CardLedger(manual)
    numbers = bounded_cards(ledger, manual)
    if growing_numbers(ledger, numbers):
        return None
    return _told_table(ledger, numbers)


def is_calm_table(manual, value):
    """Whether any object is a table of a manual no card of which has the value "many"."""
    check_manual(manual)
    ledger = CardLedger(manual)
    numbers = _table_numbers(ledger, manual, value)
    return numbers is not None and not growing_numbers(ledger, numbers)


def growing(manual):
    """An expression that grows, of the least nesting and then with the fewest jobs, None if none does."""
    check_manual(manual)
    levels = CardLevels(manual)
    return levels.expression_to(levels.growing_ones())


def is_growing(manual, value):
    """Whether any object is an expression of the manual's jobs that grows, of the least nesting."""
    check_manual(manual)
    levels = CardLevels(manual)
    return _is_told_by(manual, levels, levels.growing_ones(), value)


def _is_told_by(manual, levels, numbers, value):
    """Whether any object is an expression that has one of some numbers, of the least nesting."""
    if not has_expression_form(value, False) or not has_jobs_of(value, all_jobs(manual)):
        return False
    return ledger_number(levels.ledger, value) in numbers and nesting_of(value) == levels.nesting_to(numbers)


def growth_nesting(manual):
    """The least nesting of an expression that grows, None if none does."""
    check_manual(manual)
    levels = CardLevels(manual)
    return levels.nesting_to(levels.growing_ones())


def _levels_with(manual, card):
    """The levels of a manual, and the number of a card in its least table."""
    check_manual(manual)
    check_card(manual, card)
    levels = CardLevels(manual)
    number = levels.ledger.enter_told(card)
    if number not in levels.numbers:
        raise InvalidCard(card)
    return (levels, number)


def expression_for(manual, card):
    """An expression that has a card, of the least nesting and then with the fewest jobs."""
    levels, number = _levels_with(manual, card)
    return levels.expression_to([number])


def is_expression_for(manual, card, value):
    """Whether any object is an expression of the manual's jobs that has a card, of the least nesting."""
    levels, number = _levels_with(manual, card)
    return _is_told_by(manual, levels, [number], value)


def table_growth(manual):
    """How many cards the expressions of nesting at most 0, 1 and so on have, up to all of them."""
    check_manual(manual)
    return [len(spread.costs) for spread in CardLevels(manual).spreads]
