"""Cards and their marks (points 30 to 32)."""

from withinbooks.books import check_manual_and_book
from withinbooks.checks import check_card, check_mark, check_room
from withinbooks.manuals import check_manual
from withinbooks.marks import BEHIND, best_rows, book_card, card_behind, card_value, coded_card, coded_mark
from withinbooks.marks import part_mark, rooms_at, told_card
from withinbooks.paths import all_rooms, is_some_part
from withinbooks.purses import way_to
from withinbooks.shapes import MARKS, has_card_form


def card_of(manual, book):
    """The card of a book: between each two rooms the best mark of a part of a way that does it."""
    check_manual_and_book(manual, book)
    return told_card(book_card(manual, book))


def marks_behind(one, other):
    """The mark that two marks make, put behind one another."""
    check_mark(one)
    check_mark(other)
    return MARKS[BEHIND[coded_mark(one)][coded_mark(other)]]


def cards_behind(manual, one, other):
    """The card that two cards make, put behind one another."""
    check_manual(manual)
    check_card(manual, one)
    check_card(manual, other)
    return told_card(card_behind(coded_card(one), coded_card(other)))


def is_better(one, other):
    """Whether a mark is better than another one."""
    check_mark(one)
    check_mark(other)
    return coded_mark(one) < coded_mark(other)


def is_card(manual, value):
    """Whether any object is a card of a manual."""
    check_manual(manual)
    return has_card_form(value, len(all_rooms(manual)))


def value_of(manual, card):
    """The best mark of a card between a beginning and an end."""
    check_manual(manual)
    check_card(manual, card)
    starts, goals = rooms_at(manual, manual.beginnings()), rooms_at(manual, manual.ends())
    return MARKS[card_value(coded_card(card), starts, goals)]


def _check_part_asked(manual, book, room, other):
    check_manual_and_book(manual, book)
    check_room(manual, room)
    check_room(manual, other)


def best_part(manual, book, room, other):
    """A part of a way that does a book between two rooms with the best mark, None if there is none."""
    _check_part_asked(manual, book, room, other)
    rows = best_rows(manual, book, room)
    if other not in rows[-1]:
        return None
    return way_to(rows, other)


def is_best_part(manual, book, room, other, value):
    """Whether any object is a part of a way that does a book between two rooms with the best mark."""
    _check_part_asked(manual, book, room, other)
    if not is_some_part(manual, value) or [manner[1] for manner in value] != book:
        return False
    if not value:
        return room == other
    if value[0][0] != room or value[-1][2] != other:
        return False
    return part_mark(value) == best_rows(manual, book, room)[-1][other][0]
