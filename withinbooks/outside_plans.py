"""How the outside spoils every purse, of arguments that have been checked.

Boards are won round by round. In a round the clerk may fill only by moves to boards won
in the rounds ahead; he may spend again and again on boards that this round wins, too;
and by moves that spend nothing each board comes nearer to such a move.
"""

from withinbooks.boards import Boards


def is_spent(effect):
    """Whether an effect spends coins and does not fill."""
    return effect[0] == "coins" and effect[1] > 0


class OutsideGame:
    """The boards that can come about, and what the outside wins."""

    def __init__(self, manual, ahead):
        self.boards = Boards(manual, ahead)
        self._moves = self.boards.all_moves()
        self._dead = {}
        for board in self._moves:
            self._dead[board] = self.boards.can_end(board) and not self.boards.last_rows(board)

    def _is_won_by(self, moves, won, kept, nearer):
        """Whether each of some moves is to a board won before, spends to a kept one, or leads to a nearer one."""
        for _, effect, other in moves:
            if other in won or (is_spent(effect) and other in kept):
                continue
            if effect[0] == "fill" or other not in nearer:
                return False
        return True

    def _winning_job(self, board, won, kept, nearer):
        """A job that wins a board, "" if it is won by no more jobs, None if it is not won."""
        if self._dead[board]:
            return ""
        for job, moves in self._moves[board].items():
            if self._is_won_by(moves, won, kept, nearer):
                return job
        return None

    def _nearing(self, won, kept, fills):
        """From each board that comes nearer and nearer to a kept one to how it does: a deed and two counts."""
        found = {}
        free = 0
        fresh = [board for board in kept if board not in won]
        while fresh:
            deeds = [(board, self._winning_job(board, won, kept, found)) for board in fresh]
            made = {board: (deed, fills, free) for board, deed in deeds if deed is not None}
            found.update(made)
            fresh = [board for board, deed in deeds if deed is None] if made else []
            free += 1
        return found

    def _next_round(self, won, fills):
        """The boards that a round wins: the most that each come nearer to one another."""
        kept = self._moves
        found = self._nearing(won, kept, fills)
        while len(found) + len(won) < len(kept):
            kept = {board: True for board in list(won) + list(found)}
            found = self._nearing(won, kept, fills)
        return found

    def won(self):
        """From each board that the outside wins to a deed and two counts."""
        won = {}
        fills = 0
        found = self._next_round(won, fills)
        while found:
            won.update(found)
            fills += 1
            found = self._next_round(won, fills)
        return won


def any_outside_plan(manual, ahead):
    """An outside's plan, None if there is none."""
    game = OutsideGame(manual, ahead)
    won = game.won()
    if game.boards.first() not in won:
        return None
    return sorted([board + told for board, told in won.items()])
