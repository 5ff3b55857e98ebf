"""The needs of short books by two manuals, of arguments that have been checked."""

from withinbooks.pairs import jobs_of_both
from withinbooks.rest_rows import SHORT, RestRows
from withinbooks.shapes import MOST_COINS


class Needs:
    """The rests that books of at most so many jobs leave of each purse that one of them may need."""

    def __init__(self, manual, most):
        self._rests = [RestRows(manual, purse, SHORT) for purse in range(MOST_COINS * most + 1)]

    def first(self):
        """The rows of the empty book, one for each purse."""
        return [0 for rests in self._rests]

    def behind(self, rows, job):
        """The rows behind one job more."""
        return [rests.behind(row, job) for rests, row in zip(self._rests, rows)]

    def need(self, rows):
        """The least purse that serves a book with these rows, None if none does."""
        for purse, row in enumerate(rows):
            if self._rests[purse].is_served(row):
                return purse
        return None


def first_unlike(one, other, most):
    """The first book of at most so many jobs at which the needs by two manuals are unlike, None if there is none."""
    needs, others = Needs(one, most), Needs(other, most)
    jobs = jobs_of_both(one, other)
    level = [([], needs.first(), others.first())]
    for size in range(most + 1):
        for book, rows, other_rows in level:
            if needs.need(rows) != others.need(other_rows):
                return book
        if size < most:
            level = [(book + [job], needs.behind(rows, job), others.behind(other_rows, job))
                     for book, rows, other_rows in level for job in jobs]
    return None
