"""The books of an expression, of arguments that have been checked.

An expression is unrolled: the bodies of its agains stand so many times one behind the
other as their steady powers tell. Its leaves are the jobs that then stand in it, in
order; a ring is a tuple of the places of an again's first and its last leaf. A book of
the expression goes from leaf to leaf: to the next one, or from the last leaf of a ring
back to the first one of it.
"""

from withinbooks.expressions import ledger_number
from withinbooks.ledgers import CardLedger


class Unrolled:
    """The leaves of an expression, and which of them may come behind each."""

    def __init__(self, manual, expression):
        leaves, rings = unrolled(CardLedger(manual), expression)
        self.leaves = leaves
        self._backs = {}
        for first, last in rings:
            self._backs.setdefault(last, []).append(first)

    def behind(self, at):
        """The places of the leaves that may come behind one; behind None those that come first."""
        if at is None:
            return [0] if self.leaves else []
        backs = self._backs.get(at, [])
        if at + 1 < len(self.leaves):
            return [at + 1] + backs
        return list(backs)

    def is_last(self, at):
        """Whether a book may end behind a leaf; behind None whether it may be empty."""
        if at is None:
            return not self.leaves
        return at + 1 == len(self.leaves)


def unrolled(ledger, expression):
    """The leaves and the rings of an expression."""
    if isinstance(expression, str):
        return ([expression], [])
    leaves, rings = [], []
    if expression[0] == "row":
        for part in expression[1]:
            others, inner = unrolled(ledger, part)
            rings = rings + [(first + len(leaves), last + len(leaves)) for first, last in inner]
            leaves = leaves + others
        return (leaves, rings)
    body, inner = unrolled(ledger, expression[1])
    if not body:
        return ([], [])
    for _ in range(ledger.power(ledger_number(ledger, expression[1]))):
        rings = rings + [(first + len(leaves), last + len(leaves)) for first, last in inner]
        leaves = leaves + body
    return (leaves, rings + [(0, len(leaves) - 1)])


def is_book_in(manual, expression, book):
    """Whether a book is one of the books of an expression."""
    rolls = Unrolled(manual, expression)
    reached = {None: True}
    for job in book:
        places = [place for at in reached for place in rolls.behind(at)]
        reached = {place: True for place in places if rolls.leaves[place] == job}
    return any([rolls.is_last(at) for at in reached])
