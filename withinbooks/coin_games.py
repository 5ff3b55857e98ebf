"""What coins a clerk needs at boards, of arguments that have been checked.

The coins that a clerk needs at a board rise round by round: in the first one nothing is
needed, in each other one what the board asks if the boards behind it ask for what they
needed in the round ahead.
"""

from withinbooks.boards import Boards
from withinbooks.errors import TooMany
from withinbooks.outside_plans import any_outside_plan
from withinbooks.purses import coins_left

MOST_UNSEEN = 40


def coins_for(effect, after, purse):
    """The least coins with which an effect is paid and leaves so many; more than the purse if none do."""
    if effect[0] == "coins":
        return min(effect[1] + after, purse + 1)
    if effect[2] + after > purse:
        return purse + 1
    return min(effect[1], purse + 1)


def coins_for_rows(rows, purse):
    """The least coins that are enough for one of some rows of manners; more than the purse if none are."""
    needs = [purse + 1]
    for row in rows:
        after = 0
        for manner in row[::-1]:
            after = coins_for(manner[3], after, purse)
        needs.append(after)
    return min(needs)


class CoinGame:
    """The coins that a clerk needs at each board that can come about; more than the purse if none are enough."""

    def __init__(self, manual, purse, ahead):
        self.boards = Boards(manual, ahead)
        self._purse = purse
        self._moves = self.boards.all_moves()
        self._last = {}
        self.needs = {}
        self._rises = {}
        for board in self._moves:
            self._last[board] = 0
            if self.boards.can_end(board):
                self._last[board] = coins_for_rows(self.boards.last_rows(board), purse)
            self.needs[board] = 0
            self._rises[board] = []
        self._play()

    def _play(self):
        """Let the needs rise: in each round those of the boards ahead of which they rose."""
        ahead = self._boards_ahead()
        waiting = list(self._moves)
        count = 0
        while waiting:
            count += 1
            asked = [(board, self._asked(board)) for board in waiting]
            risen = [(board, coins) for board, coins in asked if coins > self.needs[board]]
            for board, coins in risen:
                self.needs[board] = coins
                self._rises[board].append((count, coins))
            waiting = list({other: True for board, _ in risen for other in ahead[board]})

    def _boards_ahead(self):
        """From each board to the boards that have a move to it."""
        ahead = {board: [] for board in self._moves}
        for board, jobs in self._moves.items():
            for moves in jobs.values():
                for move in moves:
                    ahead[move[2]].append(board)
        return ahead

    def _asked(self, board):
        """What a board asks, with the present needs of the boards behind it."""
        asked = self._last[board]
        for moves in self._moves[board].values():
            needs = [coins_for(effect, self.needs[other], self._purse) for _, effect, other in moves]
            asked = max(asked, min(needs, default=self._purse + 1))
        return asked

    def is_enough(self):
        """Whether the purse is enough for a clerk."""
        return self.needs[self.boards.first()] <= self._purse

    def table(self):
        """The clerk's table of all boards at which some coins are enough."""
        return sorted([board + (coins,) for board, coins in self.needs.items() if coins <= self._purse])

    def risen_at(self, board, coins):
        """The round in which a board began to need more than so many coins, None if it never did."""
        for count, need in self._rises[board]:
            if need > coins:
                return count
        return None

    def deed(self, board, coins):
        """What the outside does at a board at which so many coins are too few, and what is left then."""
        if self._last[board] > coins:
            return ("", [])
        at = self.risen_at(board, coins)
        for job, moves in self._moves[board].items():
            paid = [(other, coins_left(effect, coins, self._purse)) for _, effect, other in moves]
            left = [(other, rest) for other, rest in paid if rest is not None]
            counts = [self.risen_at(other, rest) for other, rest in left]
            if all([count is not None and count < at for count in counts]):
                return (job, left)
        return None

    def plan(self):
        """The plan against the purse: the rows that it comes to from the first board."""
        rows = {}
        waiting = [(self.boards.first(), self._purse)]
        while waiting:
            board, coins = waiting.pop()
            if (board, coins) not in rows:
                deed, left = self.deed(board, coins)
                rows[(board, coins)] = board + (coins, deed, self.risen_at(board, coins))
                waiting.extend(left)
        return sorted(list(rows.values()))


def any_clerk_table(manual, purse, ahead):
    """A clerk's table, None if there is none."""
    game = CoinGame(manual, purse, ahead)
    return game.table() if game.is_enough() else None


def any_plan_against(manual, purse, ahead):
    """A plan against a purse, None if there is none."""
    game = CoinGame(manual, purse, ahead)
    return None if game.is_enough() else game.plan()


def least_unseen(manual, ahead):
    """The least purse for which there is a clerk's table, None if there is one for no purse."""
    if any_outside_plan(manual, ahead) is not None:
        return None
    low, high = 0, MOST_UNSEEN + 1
    while low < high:
        middle = (low + high) // 2
        if CoinGame(manual, middle, ahead).is_enough():
            high = middle
        else:
            low = middle + 1
    if low > MOST_UNSEEN:
        raise TooMany(MOST_UNSEEN)
    return low
