"""Shortest books of some kind, of arguments that have been checked.

A walk goes from book to book, job by job: first, behind and is_goal tell its spots, and
at which of them the book is of the kind. What is behind at a spot is all that matters
there, so of the books that lead to it the first one alone is kept.
"""

from heapq import heappop, heappush

from withinbooks.paths import all_jobs
from withinbooks.purses import least_need
from withinbooks.rest_rows import NOWHERE, SHORT, RestRows


class HarderWalk:
    """Books that can be done, and need more than a purse."""

    def __init__(self, manual, purse):
        self._rests = RestRows(manual, purse, NOWHERE)

    def first(self):
        """The spot of the empty book."""
        return 0

    def behind(self, spot, job):
        """The spot behind a job, None if nothing of the kind can come behind it."""
        return self._rests.behind(spot, job)

    def is_goal(self, spot):
        """Whether a book that leads to a spot is of the kind."""
        return self._rests.is_bad(spot)


class UnservedWalk:
    """Books that a purse serves in the elder manual, and the other one does not in the newer one.

    Without a newer manual these are all that the purse serves in the elder one.
    """

    def __init__(self, elder, newer, purse, other):
        self._elder = RestRows(elder, purse, SHORT)
        self._newer = None
        self._least = {}
        if newer is not None:
            self._newer = RestRows(newer, other, SHORT)
            self._least[0] = [self._newer.rows[0]]

    def first(self):
        """The spot of the empty book."""
        return (0, 0)

    def behind(self, spot, job):
        """The spot behind a job, None if nothing of the kind can come behind it."""
        held = self._elder.behind(spot[0], job)
        if self._elder.is_empty(held):
            return None
        if self._newer is None:
            return (held, 0)
        return (held, self._newer.behind(spot[1], job))

    def is_beaten(self, spot):
        """Whether a spot came with the same row of the elder manual and no more in the newer one; if not, keep it."""
        rows = self._least.get(spot[0], [])
        row = self._newer.rows[spot[1]]
        for least in rows:
            if is_no_less(row, least):
                return True
        self._least[spot[0]] = [least for least in rows if not is_no_less(least, row)] + [row]
        return False

    def height(self, spot):
        """How much is left in the newer manual: spots with less are looked at first, as they beat others."""
        return sum(self._newer.rows[spot[1]])

    def is_kept(self, spot):
        """Whether no spot came with the same row of the elder manual and less in the newer one."""
        return self._newer.rows[spot[1]] in self._least[spot[0]]

    def is_goal(self, spot):
        """Whether a book that leads to a spot is of the kind."""
        if not self._elder.is_served(spot[0]):
            return False
        return self._newer is None or not self._newer.is_served(spot[1])


def is_no_less(row, other):
    """Whether a row has at no place less than another one."""
    for entry, held in zip(row, other):
        if entry < held:
            return False
    return True


def shortest_book(walk, jobs):
    """A shortest book of some jobs that is of the kind of a walk, None if there is none."""
    spots = [walk.first()]
    if walk.is_goal(spots[0]):
        return []
    ahead = {spots[0]: None}
    at = 0
    while at < len(spots):
        spot = spots[at]
        at += 1
        for job in jobs:
            other = walk.behind(spot, job)
            if other is None or other in ahead:
                continue
            ahead[other] = (spot, job)
            if walk.is_goal(other):
                return book_to(ahead, other)
            spots.append(other)
    return None


def some_book(walk, jobs):
    """A book of some jobs that is of the kind of a walk, perhaps not a shortest one, None if there is none.

    Spots that others beat are left out: whatever leads on from those to the kind leads on from these.
    """
    first = walk.first()
    if walk.is_goal(first):
        return []
    waiting = [(0, first)]
    ahead = {first: None}
    while waiting:
        _, spot = heappop(waiting)
        # What was beaten since then matters only for shortest books.
        if not walk.is_kept(spot):
            continue
        for job in jobs:
            other = walk.behind(spot, job)
            if other is None or other in ahead or walk.is_beaten(other):
                continue
            ahead[other] = (spot, job)
            if walk.is_goal(other):
                return book_to(ahead, other)
            heappush(waiting, (walk.height(other), other))
    return None


def book_to(ahead, spot):
    """The book that leads to a spot, from what is told of each: the spot ahead and the job."""
    book = []
    left = ahead[spot]
    while left is not None:
        book.append(left[1])
        left = ahead[left[0]]
    return book[::-1]


def shortest_harder(manual, purse):
    """A shortest book that can be done and needs more than a purse, None if there is none."""
    return shortest_book(HarderWalk(manual, purse), all_jobs(manual))


def shortest_unserved(elder, newer, purse, other):
    """A shortest book that a purse serves in the elder manual, and another one does not in the newer one."""
    return shortest_book(UnservedWalk(elder, newer, purse, other), all_jobs(elder))


def some_unserved(elder, newer, purse, other):
    """A book that a purse serves in the elder manual, and another one does not in the newer one, or None."""
    return some_book(UnservedWalk(elder, newer, purse, other), all_jobs(elder))


def shortest_served(manual, purse):
    """A shortest book that a purse serves, None if there is none."""
    return shortest_book(UnservedWalk(manual, None, purse, 0), all_jobs(manual))


def least_serving(manual, most):
    """The least purse that serves every book that can be done, None if it is above `most`.

    Some purse does if `most` is None.
    """
    purse = 0
    book = shortest_harder(manual, purse)
    while book is not None:
        purse = least_need(manual, book)
        if most is not None and purse > most:
            return None
        book = shortest_harder(manual, purse)
    return purse
