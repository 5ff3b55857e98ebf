"""Rests as numbers, of arguments that have been checked.

A row has a number for each room, ascending: 0 for "never", 1 for "short", and 2 more than
the coins that can be left otherwise. So what leaves more, or leads to a room at all where
nothing else does, has the greater number.
"""

from withinbooks.marks import rooms_at
from withinbooks.paths import all_jobs, all_rooms

NOWHERE = 0
SHORT = 1
COINS = 2


def told_rests(row):
    """The rests of a row."""
    return tuple([told_entry(entry) for entry in row])


def told_entry(entry):
    """What stands in rests for a number of a row."""
    if entry == NOWHERE:
        return "never"
    if entry == SHORT:
        return "short"
    return entry - COINS


def coded_rests(rests):
    """The row of some rests."""
    return tuple([coded_entry(entry) for entry in rests])


def coded_entry(entry):
    """The number of a row for what stands in rests."""
    if entry == "never":
        return NOWHERE
    if entry == "short":
        return SHORT
    return entry + COINS


def moves_of(manual, purse):
    """From each job to a list of tuples for its manners: from which room's place, to which one's, two numbers.

    They are the coins spent, ahead of a fill if it fills, and what is held behind a fill;
    this is None for a manner that does not fill.
    """
    rooms = all_rooms(manual)
    moves = {job: [] for job in all_jobs(manual)}
    for manner in manual.manners():
        effect = manner[3]
        filled = None
        if effect[0] == "fill":
            filled = purse - effect[2] + COINS if effect[2] <= purse else SHORT
        moves[manner[1]].append((rooms.index(manner[0]), rooms.index(manner[2]), effect[1], filled))
    return moves


def row_behind_moves(row, moves, least):
    """The row behind some moves; `least` stands for rooms to which none of them leads."""
    made = [least for entry in row]
    for start, goal, coins, filled in moves:
        held = row[start]
        if held >= coins + COINS:
            held = held - coins if filled is None else filled
        elif held > NOWHERE:
            held = SHORT
        if held > made[goal]:
            made[goal] = held
    return tuple(made)


class RestRows:
    """The rows that books leave of a purse, by numbers in the order in which they are found.

    With `least` as SHORT rooms that no part of a way leads to are not told from those that
    none within the purse leads to.
    """

    def __init__(self, manual, purse, least):
        self._goals = rooms_at(manual, manual.ends())
        self._moves = moves_of(manual, purse)
        self._least = least
        starts = rooms_at(manual, manual.beginnings())
        first = tuple([purse + COINS if at in starts else least for at in range(len(all_rooms(manual)))])
        self.rows = []
        self._numbers = {}
        self._made = {}
        self._served = []
        self._empty = []
        self.enter(first)

    def enter(self, row):
        """The number of a row."""
        if row not in self._numbers:
            self._numbers[row] = len(self.rows)
            self.rows.append(row)
            self._served.append(any([row[goal] >= COINS for goal in self._goals]))
            self._empty.append(max(row, default=NOWHERE) < COINS)
        return self._numbers[row]

    def behind(self, number, job):
        """The number of the row behind a job, perhaps one that the manual lacks."""
        if (number, job) not in self._made:
            row = row_behind_moves(self.rows[number], self._moves.get(job, []), self._least)
            self._made[(number, job)] = self.enter(row)
        return self._made[(number, job)]

    def is_served(self, number):
        """Whether a book with this row is served: some end has coins."""
        return self._served[number]

    def is_bad(self, number):
        """Whether a book with this row can be done, and is not served."""
        row = self.rows[number]
        return any([row[goal] > NOWHERE for goal in self._goals]) and not self.is_served(number)

    def is_empty(self, number):
        """Whether no room has coins in a row."""
        return self._empty[number]


def all_rest_rows(manual, purse):
    """The rows of all books of the manual's jobs, in the order of the first books that leave them."""
    rests = RestRows(manual, purse, NOWHERE)
    jobs = all_jobs(manual)
    at = 0
    while at < len(rests.rows):
        for job in jobs:
            rests.behind(at, job)
        at += 1
    return rests


def row_of_book(manual, purse, book):
    """The row that a book leaves of a purse."""
    moves = moves_of(manual, purse)
    row = RestRows(manual, purse, NOWHERE).rows[0]
    for job in book:
        row = row_behind_moves(row, moves.get(job, []), NOWHERE)
    return row
