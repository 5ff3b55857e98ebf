"""What manuals do, whatever it spends (points 27 to 29)."""

from withinbooks.books import check_manual_and_book
from withinbooks.checks import check_count
from withinbooks.crowds import book_at, crowd_of, done_counts, first_crowd, is_done, place_of
from withinbooks.doing_tables import any_doing_table, is_any_doing_table, shortest_missed
from withinbooks.errors import InvalidCount
from withinbooks.growths import growth_of
from withinbooks.manuals import check_both, check_manual
from withinbooks.paths import shortest_way
from withinbooks.shapes import has_book_form, is_count


def does(manual, book):
    """Whether a manual does a book."""
    check_manual_and_book(manual, book)
    return is_done(manual, book)


def rooms_after(manual, book):
    """The ascending list of the rooms to which the jobs of a book can lead."""
    check_manual_and_book(manual, book)
    return list(crowd_of(manual, book))


def shortest_done(manual):
    """A shortest book that a manual does, None if it does none."""
    check_manual(manual)
    way = shortest_way(manual)
    if way is None:
        return None
    return [manner[1] for manner in way]


def is_shortest_done(manual, value):
    """Whether any object is a shortest book that a manual does."""
    check_manual(manual)
    if not has_book_form(value) or not is_done(manual, value):
        return False
    return len(value) == len(shortest_way(manual))


def missed(elder, newer):
    """A shortest book that the elder manual does and the newer one does not, None if there is none."""
    check_both(elder, newer)
    return shortest_missed(elder, newer)


def is_missed(elder, newer, value):
    """Whether any object is a shortest book that the elder manual does and the newer one does not."""
    check_both(elder, newer)
    if not has_book_form(value) or not is_done(elder, value) or is_done(newer, value):
        return False
    return len(value) == len(shortest_missed(elder, newer))


def do_alike(one, other):
    """Whether two manuals do just the same books."""
    check_both(one, other)
    return shortest_missed(one, other) is None and shortest_missed(other, one) is None


def doing_table(elder, newer):
    """A doing table of two manuals, None if there is none."""
    check_both(elder, newer)
    return any_doing_table(elder, newer)


def is_doing_table(elder, newer, value):
    """Whether any object is a doing table of two manuals."""
    check_both(elder, newer)
    return is_any_doing_table(elder, newer, value)


def many_done(manual, size):
    """How many books with so many jobs a manual does."""
    check_manual(manual)
    check_count(size)
    return done_counts(manual, size)[-1][first_crowd(manual)]


def done_book(manual, size, number):
    """The book at a position in the ascending list of the books with so many jobs that a manual does."""
    check_manual(manual)
    check_count(size)
    counts = done_counts(manual, size)
    if not is_count(number) or number >= counts[-1][first_crowd(manual)]:
        raise InvalidCount(number)
    return book_at(manual, counts, number)


def done_place(manual, book):
    """The position of a book in the ascending list of those of its size, None if a manual does not do it."""
    check_manual_and_book(manual, book)
    if not is_done(manual, book):
        return None
    return place_of(manual, book)


def growth(manual):
    """-1 for finitely many books, None if no power of the size bounds their number, otherwise the least one."""
    check_manual(manual)
    return growth_of(manual)
