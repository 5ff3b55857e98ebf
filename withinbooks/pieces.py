"""Cuttings of books into pieces, of arguments that have been checked."""

from withinbooks.crowds import crowd_behind, first_crowd, goals_of, has_end
from withinbooks.joined import does_nothing


class Cuttings:
    """The pieces of a book by their positions, and the cuttings of it with as few pieces as can be.

    Of a book that is not empty no such cutting has an empty piece.
    """

    def __init__(self, manual, book):
        self.size = len(book)
        self._empty = does_nothing(manual)
        self._ends = [ends_from(manual, book, at) for at in range(self.size)]
        self._ahead = [[] for at in range(self.size + 1)]
        for at, ends in enumerate(self._ends):
            for end in ends:
                self._ahead[end].append(at)
        self._fewest = self._count(self._ahead, list(range(self.size + 1)))
        self._left = self._count(self._ends + [[]], list(range(self.size, -1, -1)))

    def _count(self, steps, positions):
        """From each position the fewest pieces to it from the first one of some, and how many cuttings have them."""
        found = {positions[0]: (0, 1)}
        for at in positions[1:]:
            counts = [found[other] for other in steps[at] if other in found]
            if counts:
                fewest = min(counts)[0]
                found[at] = (fewest + 1, sum([many for pieces, many in counts if pieces == fewest]))
        return found

    def fewest(self):
        """The fewest pieces of a cutting, None if there is none."""
        if self.size == 0:
            return 1 if self._empty else None
        if self.size not in self._fewest:
            return None
        return self._fewest[self.size][0]

    def many_through(self, at):
        """How many cuttings with the fewest pieces cut at a position."""
        if at not in self._fewest or at not in self._left:
            return 0
        pieces, many = self._fewest[at]
        others, more = self._left[at]
        return many * more if pieces + others == self.fewest() else 0

    def many(self):
        """How many cuttings have the fewest pieces."""
        return self._fewest[self.size][1]

    def ends(self):
        """The positions at which the pieces of a cutting with the fewest pieces end."""
        found = []
        at = self.size
        while at > 0:
            found.append(at)
            pieces = self._fewest[at][0] - 1
            at = [other for other in self._ahead[at] if other in self._fewest and self._fewest[other][0] == pieces][0]
        return found[::-1]


def ends_from(manual, book, at):
    """The ascending list of the positions at which pieces of a book end that begin at one, and are not empty."""
    goals = goals_of(manual)
    crowd = first_crowd(manual)
    ends = []
    for place in range(at, len(book)):
        crowd = crowd_behind(goals, crowd, book[place])
        if has_end(manual, crowd):
            ends.append(place + 1)
    return ends


def fewest_cutting(manual, book):
    """A cutting of a book with as few pieces as can be, None if there is none."""
    cuttings = Cuttings(manual, book)
    if cuttings.fewest() is None:
        return None
    if not book:
        return [[]]
    ends = cuttings.ends()
    return [book[start:end] for start, end in zip([0] + ends, ends)]


def cut_parts(manual):
    """The manners that do what a manual does, and cut behind what leads to an end, each once."""
    ends = manual.ends()
    made = {}
    for manner in manual.manners():
        made[manner[:3] + (("coins", 0),)] = True
        if manner[2] in ends:
            for room in manual.beginnings():
                made[manner[:2] + (room, ("coins", 1))] = True
    return list(made)
