"""What a house holds, and how its promises are kept, of arguments that have been checked.

A promise is a tuple of a manual and a purse. What a house holds never changes: each
command makes it anew.
"""

from withinbooks.bounded import least_bound
from withinbooks.purses import is_served, least_need
from withinbooks.shapes import has_book_form
from withinbooks.walks import shortest_unserved, some_unserved


class Held:
    """The edition and the coins of the purse in use, the pledges, which are promises, and the books by their spots.

    How many books were entered tells the next spot.
    """

    def __init__(self, manual, purse, promises, books, entered):
        self.edition = manual
        self.coins = purse
        self.pledges = promises
        self.lying = books
        self.entered = entered

    def promising(self, manual, purse):
        """What is held with a manual and a purse in use that are a promise, too."""
        promises = self.pledges + [(manual, purse)]
        return Held(manual, purse, promises, self.lying, self.entered)

    def using(self, purse):
        """What is held with another purse in use."""
        return Held(self.edition, purse, self.pledges, self.lying, self.entered)

    def entering(self, book):
        """What is held with one book more, at a new spot."""
        books = {spot: self.lying[spot] for spot in self.lying}
        books[self.entered] = book
        return Held(self.edition, self.coins, self.pledges, books, self.entered + 1)

    def holding(self, spot, book):
        """What is held with another book at a spot, with none if the book is None."""
        books = {other: self.lying[other] for other in self.lying if other != spot}
        if book is not None:
            books[spot] = book
        return Held(self.edition, self.coins, self.pledges, books, self.entered)

    def serves(self, book):
        """Whether the manual in use serves a book with the purse in use."""
        return is_served(self.edition, book, self.coins)

    def is_broken(self, promise):
        """Whether some book of a promise is not served."""
        return some_unserved(promise[0], self.edition, promise[1], self.coins) is not None

    def broken_book(self, promise):
        """A shortest book of a promise that is not served, None if there is none."""
        return shortest_unserved(promise[0], self.edition, promise[1], self.coins)

    def is_broken_book(self, promise, value):
        """Whether any object is a shortest book of a promise that is not served."""
        if not has_book_form(value) or not is_served(promise[0], value, promise[1]) or self.serves(value):
            return False
        return len(value) == len(self.broken_book(promise))

    def need(self, spot):
        """The need of the book at a spot, None if there is none."""
        return least_need(self.edition, self.lying[spot])

    def least_purse(self, manual):
        """The least purse of at most 40 with which a manual serves all promised books, None if none does."""
        least = 0
        for promised, purse in self.pledges:
            bound = least_bound(promised, manual, purse)
            if bound is None:
                return None
            least = max(least, bound)
        return least
