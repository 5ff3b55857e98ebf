"""What is raised for arguments that are not of their kind.

A manual itself is checked beside its class, in withinbooks.manuals.
"""

from withinbooks.errors import InvalidBook, InvalidCard, InvalidCount, InvalidEffect, InvalidExpression
from withinbooks.errors import InvalidManner, InvalidMark, InvalidRoom, InvalidWord
from withinbooks.paths import all_rooms
from withinbooks.shapes import has_book_form, has_card_form, has_effect_form, has_expression_form
from withinbooks.shapes import has_manner_form, has_mark_form, has_word_form, is_count


def check_word(value):
    """InvalidWord unless an object is a word."""
    if not has_word_form(value):
        raise InvalidWord(value)


def check_book(value):
    """InvalidBook unless an object is a book."""
    if not has_book_form(value):
        raise InvalidBook(value)


def check_count(value):
    """InvalidCount unless an object is a count."""
    if not is_count(value):
        raise InvalidCount(value)


def check_effect(value):
    """InvalidEffect unless an object is an effect."""
    if not has_effect_form(value):
        raise InvalidEffect(value)


def check_room(manual, value):
    """InvalidRoom unless an object is a room of a manual."""
    if not has_word_form(value) or value not in all_rooms(manual):
        raise InvalidRoom(value)


def check_manner(manual, value):
    """InvalidManner unless an object is a manner of a manual."""
    if not has_manner_form(value) or value not in manual.manners():
        raise InvalidManner(value)


def check_mark(value):
    """InvalidMark unless an object is a mark."""
    if not has_mark_form(value):
        raise InvalidMark(value)


def check_card(manual, value):
    """InvalidCard unless an object is a card of a manual."""
    if not has_card_form(value, len(all_rooms(manual))):
        raise InvalidCard(value)


def check_expression(value, placed):
    """InvalidExpression unless an object is an expression; if placed, places may stand in it."""
    if not has_expression_form(value, placed):
        raise InvalidExpression(value)
