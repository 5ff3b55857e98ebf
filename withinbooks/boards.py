"""Boards of clerks, of arguments that have been checked.

A move is a tuple of a manner, its effect, and the board to which it leads; if a job is
only seen, there is no manner (None), and nothing is spent.
"""

from withinbooks.crowds import crowd_behind, goals_of
from withinbooks.manuals import struck
from withinbooks.paths import all_jobs
from withinbooks.purses import coins_left
from withinbooks.shapes import has_word_form, is_ascending

OUTSIDE = ""
NOTHING = ("coins", 0)


class Boards:
    """The boards of a clerk who sees so many jobs ahead."""

    def __init__(self, manual, ahead):
        alive = struck(manual)
        self._ahead = ahead
        self._known_jobs = all_jobs(manual)
        self._jobs = all_jobs(alive)
        self._rooms = {room: True for room in alive.beginnings() + alive.ends()}
        self._goals = goals_of(alive)
        self._beginnings = alive.beginnings()
        self._ends = alive.ends()
        self._manners = {}
        for manner in alive.manners():
            self._rooms[manner[0]] = True
            self._rooms[manner[2]] = True
            self._manners.setdefault(manner[:2], []).append(manner)
            if manner[0] in self._beginnings:
                self._manners.setdefault((OUTSIDE, manner[1]), []).append(manner)

    def first(self):
        """The first board."""
        return (OUTSIDE, (), tuple(self._beginnings))

    def is_board(self, room, seen, rooms):
        """Whether any three objects make a board by its form."""
        if not isinstance(room, str) or not isinstance(seen, tuple) or not isinstance(rooms, tuple):
            return False
        if room != OUTSIDE and room not in self._rooms:
            return False
        if len(seen) > self._ahead or not all([has_word_form(word) for word in seen + rooms]):
            return False
        if not all([job in self._known_jobs for job in seen]):
            return False
        return all([other in self._rooms for other in rooms]) and is_ascending(rooms)

    def can_end(self, board):
        """Whether no more jobs can come at a board."""
        return any([room in self._ends for room in board[2]])

    def rooms_behind(self, rooms, job):
        """The ascending tuple of the rooms to which a job leads from some rooms."""
        return crowd_behind(self._goals, rooms, job)

    def coming(self, board):
        """The ascending list of the jobs that can come at a board."""
        return [job for job in self._jobs if self.rooms_behind(board[2], job)]

    def is_coming(self, board, value):
        """Whether any object is a job that can come at a board."""
        return has_word_form(value) and value in self.coming(board)

    def manners_of(self, room, job):
        """The ascending list of the manners by which a job can be done in a room, or from any beginning."""
        return list(self._manners.get((room, job), []))

    def moves(self, board, job):
        """The list of the moves by which a job can be taken at a board."""
        room, seen, rooms = board
        waiting = seen + (job,)
        behind = self.rooms_behind(rooms, job)
        if len(waiting) <= self._ahead:
            return [(None, NOTHING, (room, waiting, behind))]
        doing = self.manners_of(room, waiting[0])
        return [(manner, manner[3], (manner[2], waiting[1:], behind)) for manner in doing]

    def all_moves(self):
        """From each board that can come about to a dictionary from the jobs that can come to the moves."""
        found = {}
        waiting = [self.first()]
        while waiting:
            board = waiting.pop()
            if board not in found:
                found[board] = {job: self.moves(board, job) for job in self.coming(board)}
                waiting.extend([move[2] for moves in found[board].values() for move in moves])
        return found

    def is_end(self, room):
        """Whether a room is an end, or outside, whether some beginning is one."""
        if room == OUTSIDE:
            return any([start in self._ends for start in self._beginnings])
        return room in self._ends

    def last_rows(self, board):
        """The ascending list of the rows of manners that do the jobs seen from a board's room to an end."""
        rows = [([], board[0])]
        for job in board[1]:
            rows = [(row + [manner], manner[2]) for row, room in rows for manner in self.manners_of(room, job)]
        return [row for row, room in rows if self.is_end(room)]


def coins_behind(row, coins, purse):
    """What a row of manners leaves of so many coins, None if they are too few."""
    left = coins
    for manner in row:
        left = coins_left(manner[3], left, purse)
        if left is None:
            return None
    return left


def is_paid(rows, coins, purse):
    """Whether so many coins are enough for one of some rows of manners."""
    return any([coins_behind(row, coins, purse) is not None for row in rows])
