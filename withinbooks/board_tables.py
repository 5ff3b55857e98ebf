"""Whether any object is a clerk's table or a plan of the outside, of other arguments that have been checked."""

from withinbooks.boards import Boards, is_paid
from withinbooks.outside_plans import is_spent
from withinbooks.purses import coins_left
from withinbooks.shapes import are_unlike, is_ascending, is_count, is_tuple_of


def is_row_list(boards, value, length):
    """Whether any object is a list of tuples of a length that begin with boards."""
    if not isinstance(value, list) or not all([is_tuple_of(row, length) for row in value]):
        return False
    return all([boards.is_board(row[0], row[1], row[2]) for row in value])


def is_deed(boards, board, value):
    """Whether any object is a job that can come at a board, or "" where no more can come."""
    if isinstance(value, str) and value == "":
        return boards.can_end(board)
    return boards.is_coming(board, value)


class ClerkTable:
    """Some rows of boards and coins, judged whether they are a clerk's table."""

    def __init__(self, boards, purse, rows):
        self._boards = boards
        self._purse = purse
        self._coins = {row[:3]: row[3] for row in rows}

    def lets(self, move, coins):
        """Whether a move is paid with some coins, and leads to a board of the table with no fewer than it has."""
        left = coins_left(move[1], coins, self._purse)
        return left is not None and move[2] in self._coins and self._coins[move[2]] <= left

    def is_upheld(self, board):
        """Whether all that can come at a board of the table can be taken."""
        coins = self._coins[board]
        if self._boards.can_end(board) and not is_paid(self._boards.last_rows(board), coins, self._purse):
            return False
        for job in self._boards.coming(board):
            if not any([self.lets(move, coins) for move in self._boards.moves(board, job)]):
                return False
        return True

    def is_table(self):
        """Whether the first board is there, and each one is upheld."""
        return self._boards.first() in self._coins and all([self.is_upheld(board) for board in self._coins])


def is_any_clerk_table(manual, purse, ahead, value):
    """Whether any object is a clerk's table for a purse."""
    boards = Boards(manual, ahead)
    if not is_row_list(boards, value, 4) or not all([is_count(row[3]) and row[3] <= purse for row in value]):
        return False
    if not is_ascending(value) or not are_unlike([row[:3] for row in value]):
        return False
    return ClerkTable(boards, purse, value).is_table()


def goes_down(fills, free, effect, told):
    """Whether the counts of a board behind a move are less, as the move asks."""
    if effect[0] == "fill":
        return told[1] < fills
    if is_spent(effect):
        return told[1] <= fills
    return (told[1], told[2]) < (fills, free)


def is_upheld_plan(boards, rows, board):
    """Whether what the outside does at a board of a plan leads on within the plan."""
    deed, fills, free = rows[board]
    if deed == "":
        return not boards.last_rows(board)
    for _, effect, other in boards.moves(board, deed):
        if other not in rows or not goes_down(fills, free, effect, rows[other]):
            return False
    return True


def is_any_outside_plan(manual, ahead, value):
    """Whether any object is an outside's plan."""
    boards = Boards(manual, ahead)
    if not is_row_list(boards, value, 6):
        return False
    if not all([is_deed(boards, row[:3], row[3]) and is_count(row[4]) and is_count(row[5]) for row in value]):
        return False
    if not is_ascending(value) or not are_unlike([row[:3] for row in value]):
        return False
    rows = {row[:3]: row[3:] for row in value}
    return boards.first() in rows and all([is_upheld_plan(boards, rows, board) for board in rows])


def is_upheld_against(boards, purse, lists, row):
    """Whether what the outside does in a row leads on within a plan against a purse.

    From each board the lists tell the coins and what is left in the rows of the plan.
    """
    board, coins, deed, left = row[:3], row[3], row[4], row[5]
    if deed == "":
        return not is_paid(boards.last_rows(board), coins, purse)
    for _, effect, other in boards.moves(board, deed):
        rest = coins_left(effect, coins, purse)
        if rest is None:
            continue
        if not any([held >= rest and less < left for held, less in lists.get(other, [])]):
            return False
    return True


def is_any_plan_against(manual, purse, ahead, value):
    """Whether any object is a plan against a purse."""
    boards = Boards(manual, ahead)
    if not is_row_list(boards, value, 6):
        return False
    if not all([is_count(row[3]) and row[3] <= purse and is_count(row[5]) for row in value]):
        return False
    if not all([is_deed(boards, row[:3], row[4]) for row in value]):
        return False
    if not is_ascending(value) or not are_unlike([row[:4] for row in value]):
        return False
    if boards.first() + (purse,) not in [row[:4] for row in value]:
        return False
    lists = {}
    for row in value:
        lists.setdefault(row[:3], []).append((row[3], row[5]))
    return all([is_upheld_against(boards, purse, lists, row) for row in value])
