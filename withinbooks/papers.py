"""Texts of manuals, changes, books, expressions and tables (points 117 to 121)."""

from withinbooks.checks import check_book, check_expression
from withinbooks.errors import InvalidChange, InvalidTable, InvalidText
from withinbooks.manuals import Manual, check_manual
from withinbooks.shapes import has_book_form, has_card_form, has_change_form, has_expression_form, has_manners_form
from withinbooks.shapes import has_rooms_form, is_tuple_of
from withinbooks.texts import BLANK, LINE_END, card_in, card_line, change_in, change_line, expression_in
from withinbooks.texts import expression_pieces, lines_of, manner_in, manner_pieces, pieces_of


def _manual_text(manual):
    lines = [BLANK.join(manner_pieces(manner)) for manner in manual.manners()]
    lines.append(BLANK.join(["begins"] + manual.beginnings()))
    lines.append(BLANK.join(["ends"] + manual.ends()))
    return LINE_END.join(lines)


def manual_text(manual):
    """The text of a manual."""
    check_manual(manual)
    return _manual_text(manual)


def _check_string(text):
    if not isinstance(text, str):
        raise InvalidText(text)


def read_manual(text):
    """The manual that has a text."""
    _check_string(text)
    lines = [pieces_of(line) for line in lines_of(text)]
    if len(lines) < 2:
        raise InvalidText(text)
    manners = [manner_in(pieces) for pieces in lines[:-2]]
    beginnings, ends = lines[-2][1:], lines[-1][1:]
    if not has_manners_form(manners) or not has_rooms_form(beginnings) or not has_rooms_form(ends):
        raise InvalidText(text)
    manual = Manual(manners, beginnings, ends)
    if _manual_text(manual) != text:
        raise InvalidText(text)
    return manual


def change_text(change):
    """The text of a change."""
    if not has_change_form(change):
        raise InvalidChange(change)
    return change_line(change)


def read_change(text):
    """The change that has a text."""
    _check_string(text)
    change = change_in(pieces_of(text))
    if not has_change_form(change) or change_line(change) != text:
        raise InvalidText(text)
    return change


def book_text(book):
    """The text of a book."""
    check_book(book)
    return BLANK.join(book)


def read_book(text):
    """The book that has a text."""
    _check_string(text)
    book = pieces_of(text)
    if not has_book_form(book):
        raise InvalidText(text)
    return book


def expression_text(expression):
    """The text of an expression; places may stand in it."""
    check_expression(expression, True)
    return BLANK.join(expression_pieces(expression))


def read_expression(text):
    """The expression that has a text."""
    _check_string(text)
    expression = expression_in(pieces_of(text))
    if not has_expression_form(expression, True):
        raise InvalidText(text)
    return expression


def _is_any_card(value):
    return isinstance(value, tuple) and has_card_form(value, len(value))


def _is_card_pair(value):
    return is_tuple_of(value, 2) and all([_is_any_card(card) for card in value])


def table_text(table):
    """The text of a list of cards."""
    if not isinstance(table, list) or not all([_is_any_card(card) for card in table]):
        raise InvalidTable(table)
    return LINE_END.join([card_line(card) for card in table])


def read_table(text):
    """The list of cards that has a text."""
    _check_string(text)
    table = [card_in(line) for line in lines_of(text)]
    if not all([_is_any_card(card) for card in table]):
        raise InvalidText(text)
    return table


def pairs_text(table):
    """The text of a list of tuples of two cards."""
    if not isinstance(table, list) or not all([_is_card_pair(pair) for pair in table]):
        raise InvalidTable(table)
    return LINE_END.join([" | ".join([card_line(card) for card in pair]) for pair in table])


def read_pairs(text):
    """The list of tuples of two cards that has a text."""
    _check_string(text)
    table = [tuple([card_in(piece) for piece in line.split(" | ")]) for line in lines_of(text)]
    if not all([_is_card_pair(pair) for pair in table]):
        raise InvalidText(text)
    return table
