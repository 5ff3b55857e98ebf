"""Clerks who see nothing ahead and follow a fixed rule, of arguments that have been checked."""

from withinbooks.boards import Boards
from withinbooks.purses import coins_left


def rule_choices(manual):
    """From each tuple (room, rooms, job) that a rule tells of to the list of manners that it may tell."""
    boards = Boards(manual, 0)
    choices = {}
    for board, jobs in boards.all_moves().items():
        for job in jobs:
            manners = boards.manners_of(board[0], job)
            if manners:
                choices[(board[0], board[2], job)] = manners
    return choices


class SpoilWalk:
    """Books that can be done, and that a rule does not do with a purse.

    A spot is a tuple of a room, None where the rule has failed, of the rooms in which somebody
    can be, and of the coins that are left.
    """

    def __init__(self, manual, purse, rule):
        self._boards = Boards(manual, 0)
        self._purse = purse
        self._rule = rule

    def first(self):
        """The spot of the empty book."""
        room, _, rooms = self._boards.first()
        return (room, rooms, self._purse)

    def behind(self, spot, job):
        """The spot behind a job, None if no book with it can be done."""
        room, rooms, coins = spot
        others = self._boards.rooms_behind(rooms, job)
        if not others:
            return None
        if room is None or (room, rooms, job) not in self._rule:
            return (None, others, 0)
        manner = self._rule[(room, rooms, job)]
        left = coins_left(manner[3], coins, self._purse)
        if left is None:
            return (None, others, 0)
        return (manner[2], others, left)

    def is_goal(self, spot):
        """Whether a book that leads to a spot can be done, and the rule has failed."""
        room, rooms, _ = spot
        if not self._boards.can_end((room, (), rooms)):
            return False
        return room is None or not self._boards.is_end(room)
