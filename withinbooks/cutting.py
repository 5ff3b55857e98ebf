"""Cutting books into pieces that a manual can do (points 91 to 95)."""

from withinbooks.books import check_manual_and_book
from withinbooks.crowds import is_done
from withinbooks.errors import InvalidCount
from withinbooks.manuals import Manual, check_both, check_manual
from withinbooks.pieces import Cuttings, cut_parts, fewest_cutting
from withinbooks.paths import shortest_way
from withinbooks.rests import least_purse
from withinbooks.shapes import has_book_form, is_count
from withinbooks.walks import shortest_harder
from withinbooks.within import is_within

MOST_MANY = 12


def many_pieces(manual, book):
    """The least number of pieces of a cutting of a book, None if it has none."""
    check_manual_and_book(manual, book)
    return Cuttings(manual, book).fewest()


def is_cuttable(manual, book):
    """Whether a book has a cutting."""
    check_manual_and_book(manual, book)
    return Cuttings(manual, book).fewest() is not None


def fewest_pieces(manual, book):
    """A cutting of a book with as few pieces as can be, None if there is none."""
    check_manual_and_book(manual, book)
    return fewest_cutting(manual, book)


def are_fewest_pieces(manual, book, value):
    """Whether any object is a cutting of a book with as few pieces as can be."""
    check_manual_and_book(manual, book)
    if not isinstance(value, list) or not value or not all([has_book_form(piece) for piece in value]):
        return False
    if [job for piece in value for job in piece] != book or not all([is_done(manual, piece) for piece in value]):
        return False
    return len(value) == Cuttings(manual, book).fewest()


def may_cut(manual, book):
    """The ascending list of the positions at which some cutting with the fewest pieces cuts, or None."""
    check_manual_and_book(manual, book)
    cuttings = Cuttings(manual, book)
    if cuttings.fewest() is None:
        return None
    return [at for at in range(1, len(book)) if cuttings.many_through(at) > 0]


def must_cut(manual, book):
    """The ascending list of the positions at which each cutting with the fewest pieces cuts, or None."""
    check_manual_and_book(manual, book)
    cuttings = Cuttings(manual, book)
    if cuttings.fewest() is None:
        return None
    return [at for at in range(1, len(book)) if cuttings.many_through(at) == cuttings.many()]


def _cut_manual(manual):
    return Manual(cut_parts(manual), manual.beginnings(), manual.ends())


def cuts(manual):
    """The manual whose need of every book is one less than the least number of pieces."""
    check_manual(manual)
    return _cut_manual(manual)


def most_pieces(manual):
    """The least number of pieces into which every book that has a cutting can be cut, None if none is enough."""
    check_manual(manual)
    most = least_purse(_cut_manual(manual))
    if most is None:
        return None
    return 0 if shortest_way(manual) is None else most + 1


def _check_many(manual, many):
    check_manual(manual)
    if not is_count(many) or many > MOST_MANY:
        raise InvalidCount(many)


def _shortest_uncut(manual, many):
    if many > 0:
        return shortest_harder(_cut_manual(manual), many - 1)
    way = shortest_way(manual)
    return None if way is None else [manner[1] for manner in way]


def uncut(manual, many):
    """A shortest book that has a cutting, but none with at most so many pieces, None if there is none."""
    _check_many(manual, many)
    return _shortest_uncut(manual, many)


def is_uncut(manual, many, value):
    """Whether any object is such a book as uncut returns."""
    _check_many(manual, many)
    if not has_book_form(value):
        return False
    pieces = Cuttings(manual, value).fewest()
    return pieces is not None and pieces > many and len(value) == len(_shortest_uncut(manual, many))


def cuts_within(elder, newer):
    """Whether for every number one is enough for the newer manual where the elder one needs no more than it."""
    check_both(elder, newer)
    return is_within(_cut_manual(elder), _cut_manual(newer))
