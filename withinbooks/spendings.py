"""What parts of ways spend between two rooms, of arguments that have been checked.

A part without fills is told by its sum alone; a part with fills by a tuple: what is spent
up to the first fill, the most between two fills, and what is spent behind the last one.
"""

from withinbooks.paths import all_rooms
from withinbooks.shapes import MOST_COINS


class Spendings:
    """What the parts of ways between two rooms spend that do a book: none that others beat are kept."""

    def __init__(self):
        self.lowest = None
        self.filled = []

    def add_sum(self, spent):
        """Add a part without fills."""
        if self.lowest is None or spent < self.lowest:
            self.lowest = spent

    def add_filled(self, part):
        """Add a part with fills."""
        if any([is_no_more(held, part) for held in self.filled]):
            return
        self.filled = [held for held in self.filled if not is_no_more(part, held)] + [part]

    def need_at(self, ahead, behind):
        """The least purse for a part with so many coins spent ahead and behind, None if there is no part."""
        needs = [max(ahead + first, middle, last + behind) for first, middle, last in self.filled]
        if self.lowest is not None:
            needs.append(ahead + self.lowest + behind)
        return min(needs, default=None)

    def told(self):
        """All that is kept: equal for what needs the same with whatever is spent ahead and behind."""
        return (self.lowest, sorted(self.filled))

    def all_numbers(self):
        """All numbers that are kept."""
        held = [number for part in self.filled for number in part]
        return held if self.lowest is None else held + [self.lowest]


def is_no_more(part, other):
    """Whether a part with fills spends in no stretch more than another one."""
    return part[0] <= other[0] and part[1] <= other[1] and part[2] <= other[2]


def add_behind(held, effect, made):
    """Add to some spendings those of parts that go on with an effect."""
    if effect[0] == "coins":
        if held.lowest is not None:
            made.add_sum(held.lowest + effect[1])
        for first, middle, last in held.filled:
            made.add_filled((first, middle, last + effect[1]))
        return
    if held.lowest is not None:
        made.add_filled((held.lowest + effect[1], 0, effect[2]))
    for first, middle, last in held.filled:
        made.add_filled((first, max(middle, last + effect[1]), effect[2]))


def spendings_from(manual, book, room):
    """From each room to the spendings of the parts of ways that do a book and lead from a room to it."""
    found = {room: Spendings()}
    found[room].add_sum(0)
    for job in book:
        made = {}
        for manner in manual.manners():
            if manner[1] == job and manner[0] in found:
                made.setdefault(manner[2], Spendings())
                add_behind(found[manner[0]], manner[3], made[manner[2]])
        found = made
    return found


def spendings_between(manual, book):
    """From each two rooms, between which some part does a book, to the spendings of these parts."""
    found = {}
    for room in all_rooms(manual):
        for goal, held in spendings_from(manual, book, room).items():
            found[(room, goal)] = held
    return found


def least_between(manual, book, room, goal, ahead, behind):
    """The least purse for a part between two rooms with so many coins spent ahead and behind, or None."""
    found = spendings_from(manual, book, room)
    if goal not in found:
        return None
    return found[goal].need_at(ahead, behind)


def unlike_places(manual, one, other):
    """The list of tuples of two rooms, and the spendings of two books between them, that may need unlike purses."""
    first, second = spendings_between(manual, one), spendings_between(manual, other)
    places = []
    for room in all_rooms(manual):
        for goal in all_rooms(manual):
            held = first.get((room, goal), Spendings())
            others = second.get((room, goal), Spendings())
            if held.told() != others.told():
                places.append((room, goal, held, others))
    return places


def least_parting(manual, one, other):
    """A tuple of a room, coins ahead, a room and coins behind for which two books need unlike purses, or None.

    The coins together are as few as can be.
    """
    places = unlike_places(manual, one, other)
    numbers = [number for place in places for held in place[2:] for number in held.all_numbers()]
    # Point 75: with more coins on a side the needs only rise together.
    most = 2 * max(numbers, default=0) + 1
    for total in range(2 * most + 1):
        for ahead in range(max(0, total - most), min(total, most) + 1):
            behind = total - ahead
            for room, goal, held, others in places:
                if held.need_at(ahead, behind) != others.need_at(ahead, behind):
                    return (room, ahead, goal, behind)
    return None


def coin_jobs(coins, job, one_job):
    """A book that spends just so many coins, if the one job spends 3 and the other one 1."""
    return [job] * (coins // MOST_COINS) + [one_job] * (coins - coins // MOST_COINS * MOST_COINS)
