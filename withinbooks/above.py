"""Books of an expression that need more than a purse, of arguments that have been checked.

If one book of an expression can be done, all of them can: so one needs more than the
purse just if its row of rests has no coins at an end. If this comes behind a row, it
comes behind each lower one, too: of the rows at a leaf only the lowest are gone on with.
"""

from withinbooks.expressions import ledger_number
from withinbooks.ledgers import CardLedger
from withinbooks.marks import MANY, NEVER
from withinbooks.purses import least_need
from withinbooks.rest_rows import SHORT, RestRows
from withinbooks.unrolled import Unrolled


def expression_mark(manual, expression):
    """The number of the mark that is the value of an expression's card."""
    ledger = CardLedger(manual)
    return ledger.mark_of(ledger_number(ledger, expression))


def is_lower(row, other):
    """Whether a row has at no place more than another one."""
    return all([entry <= held for entry, held in zip(row, other)])


class Above:
    """The search for a shortest book of an unrolled expression that needs more than a purse."""

    def __init__(self, manual, rolls, purse):
        self._rolls = rolls
        self._rests = RestRows(manual, purse, SHORT)
        self._lowest = {}
        self._spots = []
        self._ahead = []

    def is_high(self, at, number):
        """Whether a lower row, or the same one, came to a leaf; if not, this one has come now."""
        rows = self._lowest.get(at, [])
        row = self._rests.rows[number]
        if any([is_lower(low, row) for low in rows]):
            return True
        self._lowest[at] = [low for low in rows if not is_lower(row, low)] + [row]
        return False

    def go_on(self, place, at, number):
        """Go on from a spot: the first spot behind it at which a book is found, None if there is none."""
        for goal in self._rolls.behind(at):
            other = self._rests.behind(number, self._rolls.leaves[goal])
            if not self.is_high(goal, other):
                self._spots.append((goal, other))
                self._ahead.append(place)
                if self._rolls.is_last(goal) and not self._rests.is_served(other):
                    return len(self._spots) - 1
        return None

    def book_at(self, place):
        """The book that leads to a spot."""
        book = []
        left = place
        while left > 0:
            book.append(self._rolls.leaves[self._spots[left][0]])
            left = self._ahead[left]
        return book[::-1]

    def shortest(self):
        """The book, None if there is none."""
        self._spots = [(None, 0)]
        self._ahead = [0]
        place = 0
        while place < len(self._spots):
            at, number = self._spots[place]
            found = self.go_on(place, at, number)
            if found is not None:
                return self.book_at(found)
            place += 1
        return None


def shortest_above(manual, expression, purse):
    """A shortest book of an expression that can be done and needs more than a purse, None if there is none."""
    if expression_mark(manual, expression) == NEVER:
        return None
    return Above(manual, Unrolled(manual, expression), purse).shortest()


def least_ceiling(manual, expression):
    """The least purse that serves all books of an expression that can be done, None if no purse does."""
    mark = expression_mark(manual, expression)
    if mark == MANY:
        return None
    purse = 0
    book = shortest_above(manual, expression, purse)
    while book is not None:
        purse = least_need(manual, book)
        book = shortest_above(manual, expression, purse)
    return purse


def shortest_top(manual, expression):
    """A shortest book of an expression that needs just its ceiling, None if there is none."""
    top = least_ceiling(manual, expression)
    if top is None or expression_mark(manual, expression) == NEVER:
        return None
    if top == 0:
        return list(Unrolled(manual, expression).leaves)
    return shortest_above(manual, expression, top - 1)
