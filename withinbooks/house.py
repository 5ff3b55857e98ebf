"""A running house (points 102 to 110)."""

from withinbooks.checks import check_book
from withinbooks.commands import called, copied, has_log_form
from withinbooks.errors import InvalidCount, InvalidHouse, InvalidLog, InvalidSpot, NothingToRedo, NothingToUndo
from withinbooks.errors import Refused
from withinbooks.manuals import changed_by, check_manual
from withinbooks.paths import is_some_way
from withinbooks.promises import Held
from withinbooks.purses import is_served, stretches_of, way_within
from withinbooks.shapes import is_count

MOST_PURSE = 12


def _check_purse(value):
    if not is_count(value) or value > MOST_PURSE:
        raise InvalidCount(value)


class Trial:
    """A block of a house: when it is left, the house is as it was when the block was entered."""

    def __init__(self, house):
        self.house = house
        self.held = []
        self.commands = []
        self.done = 0

    def __enter__(self):
        self.held, self.commands, self.done = self.house.history()
        return self.house

    def __exit__(self, kind, value, trace):
        house = self.house
        house.states = self.held
        house.commands = self.commands
        house.done = self.done


class House:
    """Books done by a manual with a purse, and promises.

    The attribute `states` has what is held at first and behind each command, `commands` the
    commands, those that were taken back among them, and `done` how many were not. These lists
    never change; new ones take their place.
    """

    def __init__(self, manual, purse):
        check_manual(manual)
        _check_purse(purse)
        self.states = [Held(manual, purse, [(manual, purse)], {}, 0)]
        self.commands = []
        self.done = 0

    def history(self):
        """What a block puts back: the states, the commands, and how many are done."""
        return (self.states, self.commands, self.done)

    def _now(self):
        return self.states[self.done]

    def _take(self, command, held):
        self.states = self.states[:self.done + 1] + [held]
        self.commands = self.commands[:self.done] + [command]
        self.done += 1

    def _check_spot(self, value):
        if not is_count(value) or value not in self._now().lying:
            raise InvalidSpot(value)

    def _promise_at(self, at):
        if not is_count(at) or at >= len(self._now().pledges):
            raise InvalidCount(at)
        return self._now().pledges[at]

    def manual(self):
        """The manual in use."""
        return self._now().edition

    def purse(self):
        """The purse in use."""
        return self._now().coins

    def promises(self):
        """The list of all promises, the eldest first."""
        return list(self._now().pledges)

    def broken(self):
        """The ascending list of the positions of the promises that are not kept."""
        now = self._now()
        return [at for at, promise in enumerate(now.pledges) if now.is_broken(promise)]

    def broken_book(self, at):
        """A shortest book of the promise at a position that is not served, None if there is none."""
        promise = self._promise_at(at)
        return self._now().broken_book(promise)

    def is_broken_book(self, at, value):
        """Whether any object is a shortest book of the promise at a position that is not served."""
        promise = self._promise_at(at)
        return self._now().is_broken_book(promise, value)

    def first_promise(self, book):
        """The position of the first promise by which a book is promised, None if it is by none."""
        check_book(book)
        for at, promise in enumerate(self._now().pledges):
            if is_served(promise[0], book, promise[1]):
                return at
        return None

    def enter(self, book):
        """Put a book at the least spot that none has had, and return the spot."""
        check_book(book)
        now = self._now()
        if not now.serves(book):
            raise Refused(book)
        self._take(("enter", list(book)), now.entering(list(book)))
        return now.entered

    def go_on(self, spot, book):
        """Put the jobs of another book behind those of the one at a spot."""
        self._check_spot(spot)
        check_book(book)
        now = self._now()
        longer = now.lying[spot] + book
        if not now.serves(longer):
            raise Refused(book)
        self._take(("go_on", spot, list(book)), now.holding(spot, longer))

    def close(self, spot):
        """Take the book at a spot away."""
        self._check_spot(spot)
        self._take(("close", spot), self._now().holding(spot, None))

    def spots(self):
        """The ascending list of the spots at which books lie."""
        return sorted(list(self._now().lying))

    def book(self, spot):
        """The book at a spot."""
        self._check_spot(spot)
        return list(self._now().lying[spot])

    def need(self, spot):
        """The need of the book at a spot by the manual in use, None if there is none."""
        self._check_spot(spot)
        return self._now().need(spot)

    def best_way(self, spot):
        """A way of the book at a spot with its need, None if there is none."""
        self._check_spot(spot)
        now = self._now()
        need = now.need(spot)
        if need is None:
            return None
        return way_within(now.edition, now.lying[spot], need, False)

    def is_best_way(self, spot, value):
        """Whether any object is a way of the book at a spot with its need."""
        self._check_spot(spot)
        now = self._now()
        if not is_some_way(now.edition, value) or [manner[1] for manner in value] != now.lying[spot]:
            return False
        return max(stretches_of(value)) == now.need(spot)

    def lost(self):
        """The ascending list of the spots whose book is not served."""
        now = self._now()
        return [spot for spot in self.spots() if not now.serves(now.lying[spot])]

    def price(self, changes):
        """The least purse of at most 40 with which changes of the manual serve all promised books, or None."""
        now = self._now()
        return now.least_purse(changed_by(now.edition, changes))

    def change(self, changes, most):
        """Put the manual that changes make in use with its price as the purse, promise it, and return the purse."""
        now = self._now()
        manual = changed_by(now.edition, changes)
        _check_purse(most)
        purse = now.least_purse(manual)
        if purse is None or purse > most:
            raise Refused(changes)
        self._take(("change", list(changes), most), now.promising(manual, purse))
        return purse

    def force(self, changes):
        """Put the manual that changes make in use without a look, and promise it with the purse in use."""
        now = self._now()
        manual = changed_by(now.edition, changes)
        self._take(("force", list(changes)), now.promising(manual, now.coins))

    def widen(self, purse):
        """Put a greater purse in use, and promise the manual in use with it."""
        now = self._now()
        _check_purse(purse)
        if purse <= now.coins:
            raise InvalidCount(purse)
        self._take(("widen", purse), now.promising(now.edition, purse))

    def least(self):
        """The least purse of at most 40 with which the manual in use serves all promised books, or None."""
        now = self._now()
        return now.least_purse(now.edition)

    def tighten(self):
        """Put the least purse in use that serves all promised books, and return it."""
        now = self._now()
        purse = now.least_purse(now.edition)
        # Some promise is broken just if the purse in use is less than the least one.
        if purse is None or purse > now.coins:
            raise Refused(now.coins)
        self._take(("tighten",), now.using(purse))
        return purse

    def undo(self):
        """Take back the last command."""
        if self.done == 0:
            raise NothingToUndo()
        self.done -= 1

    def redo(self):
        """Make the command that was taken back last again."""
        if self.done == len(self.commands):
            raise NothingToRedo()
        self.done += 1

    def trial(self):
        """A block: when it is left, the house is as it was when the block was entered."""
        return Trial(self)

    def attempt(self, action):
        """Call a function with the house in a block, and return what it returns."""
        with self.trial():
            return action(self)

    def copy(self):
        """An independent house that is the same, also in what can be undone and made again."""
        first = self.states[0]
        made = House(first.edition, first.coins)
        made.states = self.states
        made.commands = self.commands
        made.done = self.done
        return made

    def log(self):
        """The list of the commands that are not taken back."""
        return [copied(command) for command in self.commands[:self.done]]


def check_house(value):
    """InvalidHouse unless an object is a house."""
    if not isinstance(value, House):
        raise InvalidHouse(value)


def replayed(house, log):
    """A copy of a house in which the commands of a log are made behind."""
    check_house(house)
    if not has_log_form(log):
        raise InvalidLog(log)
    made = house.copy()
    for command in log:
        called(made, command)
    return made
