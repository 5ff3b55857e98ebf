"""Books, their ways and their needs (points 20 to 24)."""

from withinbooks.checks import check_book, check_count
from withinbooks.errors import InvalidWay
from withinbooks.manuals import check_manual
from withinbooks.paths import all_rooms, is_some_way
from withinbooks.purses import end_spots, fills_in, least_need, least_paper, rows_of_book
from withinbooks.purses import stretches_of, upholds, way_within
from withinbooks.shapes import has_book_form, is_count


def check_manual_and_book(manual, book):
    """InvalidManual, then InvalidBook."""
    check_manual(manual)
    check_book(book)


def check_asked(manual, book, purse):
    """InvalidManual, then InvalidBook, then InvalidCount."""
    check_manual_and_book(manual, book)
    check_count(purse)


def is_book(value):
    """Whether any object is a book."""
    return has_book_form(value)


def is_way(manual, book, value):
    """Whether any object is a way of a book."""
    check_manual_and_book(manual, book)
    return _is_way_of(manual, book, value)


def _is_way_of(manual, book, value):
    return is_some_way(manual, value) and [manner[1] for manner in value] == book


def stretches(manual, way):
    """The list of what is spent in a way up to the first fill, between two fills, and to the end."""
    check_manual(manual)
    if not is_some_way(manual, way):
        raise InvalidWay(way)
    return stretches_of(way)


def need_of(manual, book):
    """The least need of a way of a book, None if it has none."""
    check_manual_and_book(manual, book)
    return least_need(manual, book)


def least_way(manual, book):
    """A way of a book that has the least need, None if it has no way."""
    check_manual_and_book(manual, book)
    need = least_need(manual, book)
    if need is None:
        return None
    return way_within(manual, book, need, False)


def is_least_way(manual, book, value):
    """Whether any object is a way of a book that has the least need."""
    check_manual_and_book(manual, book)
    return _is_way_of(manual, book, value) and max(stretches_of(value)) == least_need(manual, book)


def paper_of(manual, book, purse):
    """A paper of a book for a purse, None if some way is within the purse."""
    check_asked(manual, book, purse)
    return least_paper(manual, book, purse)


def is_paper(manual, book, purse, value):
    """Whether any object is a paper of a book for a purse."""
    check_asked(manual, book, purse)
    if not isinstance(value, list) or len(value) != len(book) + 1:
        return False
    rooms = all_rooms(manual)
    if not all([_is_coin_row(row, rooms, purse) for row in value]):
        return False
    if any([value[0].get(room) != purse for room in manual.beginnings()]):
        return False
    if any([room in value[-1] for room in manual.ends()]):
        return False
    return all([_is_upheld_at(manual, book, purse, value, at) for at in range(len(book))])


def _is_coin_row(value, rooms, purse):
    if not isinstance(value, dict):
        return False
    return all([room in rooms and is_count(coins) and coins <= purse for room, coins in value.items()])


def _is_upheld_at(manual, book, purse, paper, at):
    doing = [manner for manner in manual.manners() if manner[1] == book[at]]
    return upholds(paper[at], paper[at + 1], doing, purse)


def dry_at(manual, book, purse):
    """How many first jobs of a book can be done with a purse, None if the whole book can."""
    check_asked(manual, book, purse)
    rows = rows_of_book(manual, book, purse, False)
    if end_spots(manual, rows):
        return None
    return max(0, len([row for row in rows if row]) - 1)


def fewest_fills(manual, book, purse):
    """The least number of fills of a way of a book within a purse, None if there is none."""
    check_asked(manual, book, purse)
    way = way_within(manual, book, purse, True)
    if way is None:
        return None
    return fills_in(way)


def few_way(manual, book, purse):
    """A way of a book within a purse with the fewest fills, None if there is none."""
    check_asked(manual, book, purse)
    return way_within(manual, book, purse, True)


def is_few_way(manual, book, purse, value):
    """Whether any object is a way of a book within a purse with the fewest fills."""
    check_asked(manual, book, purse)
    if not _is_way_of(manual, book, value) or max(stretches_of(value)) > purse:
        return False
    return fills_in(value) == fills_in(way_within(manual, book, purse, True))
