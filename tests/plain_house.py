"""A second, plain house: a list of commands that is played from the beginning whenever it is asked (section 16)."""

from tests.plain import plain_changed, plain_need, plain_state
from withinbooks import errors
from withinbooks.bounds import bound_at, unserved_book
from withinbooks.house import House
from withinbooks.manuals import Manual

COMMANDS = ["enter", "go_on", "close", "change", "force", "widen", "tighten"]


def house_told(house):
    """All that can be told of a house: what it holds, its log, and what can be made again."""
    again = house.copy()
    steps = 0
    try:
        while True:
            again.redo()
            steps += 1
    except errors.NothingToRedo:
        pass
    books = {spot: house.book(spot) for spot in house.spots()}
    promises = [(plain_state(manual), purse) for manual, purse in house.promises()]
    return [plain_state(house.manual()), house.purse(), promises, books, house.log(), again.log(), steps]


def is_served_plainly(manual, book, purse):
    need = plain_need(manual, book)
    return need is not None and need <= purse


def plain_price(promises, manual):
    bounds = [bound_at(promised, manual, purse) for promised, purse in promises]
    return None if None in bounds else max(bounds)


def manual_with(manual, changes):
    """The manual with changes; the error of the first that does not fit."""
    state = plain_state(manual)
    for change in changes:
        state = plain_changed(state, [change])
        if state is None:
            raise errors.InvalidChange(change)
    return Manual(*[list(part) for part in state])


class PlainHouse:
    def __init__(self, manual, purse):
        self.first = (manual, purse)
        self.done, self.undone = [], []

    def play(self):
        """The manual, the purse, the promises, the books and the number of those entered, command by command."""
        manual, purse = self.first
        promises, books, entered = [self.first], {}, 0
        for word, *things in self.done:
            if word == "enter":
                books[entered] = list(things[0])
                entered += 1
            elif word == "go_on":
                books[things[0]] = books[things[0]] + list(things[1])
            elif word == "close":
                del books[things[0]]
            elif word == "change":
                manual = manual_with(manual, things[0])
                purse = plain_price(promises, manual)
                promises = promises + [(manual, purse)]
            elif word == "force":
                manual = manual_with(manual, things[0])
                promises = promises + [(manual, purse)]
            elif word == "widen":
                purse = things[0]
                promises = promises + [(manual, purse)]
            else:
                purse = plain_price(promises, manual)
        return manual, purse, promises, books, entered

    def take(self, word, *things):
        """Make a command or refuse it, by the words of points 104 and 106 to 108; what it returns."""
        manual, purse, promises, books, entered = self.play()
        result = None
        if word in ("go_on", "close") and things[0] not in books:
            raise errors.InvalidSpot(things[0])
        if word == "enter":
            result = entered
            if not is_served_plainly(manual, things[0], purse):
                raise errors.Refused(things[0])
        elif word == "go_on" and not is_served_plainly(manual, books[things[0]] + things[1], purse):
            raise errors.Refused(things[1])
        elif word == "change":
            result = plain_price(promises, manual_with(manual, things[0]))
            if things[1] > 12:
                raise errors.InvalidCount(things[1])
            if result is None or result > things[1]:
                raise errors.Refused(things[0])
        elif word == "force":
            manual_with(manual, things[0])
        elif word == "widen" and (things[0] > 12 or things[0] <= purse):
            raise errors.InvalidCount(things[0])
        elif word == "tighten":
            if any(unserved_book(one, manual, held, purse) is not None for one, held in promises):
                raise errors.Refused(purse)
            result = plain_price(promises, manual)
        self.done = self.done + [(word,) + things]
        self.undone = []
        return result

    def undo(self):
        if not self.done:
            raise errors.NothingToUndo()
        self.undone = self.done[-1:] + self.undone
        self.done = self.done[:-1]

    def redo(self):
        if not self.undone:
            raise errors.NothingToRedo()
        self.done = self.done + self.undone[:1]
        self.undone = self.undone[1:]

    def told(self):
        manual, purse, promises, books, _ = self.play()
        told = [(plain_state(one), held) for one, held in promises]
        return [plain_state(manual), purse, told, books, list(self.done), self.done + self.undone, len(self.undone)]

    def command(self, word, *things):
        if word == "undo":
            return self.undo()
        if word == "redo":
            return self.redo()
        return self.take(word, *things)


def outcome(function, *arguments):
    """What a call returns, or its error's class and value."""
    try:
        return ("told", function(*arguments))
    except errors.PurseError as caught:
        return (type(caught).__name__, getattr(caught, "value", None))


def drawn_command(draw, jobs, manual):
    """A command, mostly one that can be taken."""
    word = draw.choice(["enter"] * 4 + ["go_on", "go_on", "close", "change", "change", "force", "widen", "tighten",
                                         "undo", "undo", "redo"])
    book = [draw.choice(jobs) for _ in range(draw.randrange(4))]
    spot, number = draw.randrange(4), draw.randrange(15)
    things = {"enter": [book], "go_on": [spot, book], "close": [spot], "change": [drawn_changes(draw, manual), number],
              "force": [drawn_changes(draw, manual)], "widen": [number]}
    return tuple([word] + things.get(word, []))


def drawn_changes(draw, manual):
    """A few changes, most of which fit."""
    changes = []
    for _ in range(draw.randrange(3)):
        manners = manual.manners() or [("a", "x", "a", ("coins", 1))]
        manner = draw.choice(manners)
        other = (draw.choice("ab"), draw.choice("xy"), draw.choice("ab"), draw.choice([("coins", 0), ("fill", 0, 1)]))
        changes.append(draw.choice([("effect", manner, ("coins", draw.randrange(2))), ("put", other), ("out", manner),
                                    ("stop", draw.choice("ab")), ("start", draw.choice("ab"))]))
    return changes


def made_house(manual, purse, commands):
    """A house in which commands are made."""
    house = House(manual, purse)
    for word, *things in commands:
        getattr(house, word)(*things)
    return house
