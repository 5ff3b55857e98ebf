"""Plain reckonings of section 12, by the words of the points and without regard to time."""

import itertools

from tests.plain import is_plain_count
from tests.plain_cards import plain_jobs


def plain_counted(manual):
    """The rooms that count, and the manners that do."""
    rooms = list(manual.ends())
    while True:
        more = [m[0] for m in manual.manners() if m[2] in rooms and m[0] not in rooms]
        if not more:
            return sorted(rooms), [m for m in manual.manners() if m[2] in rooms]
        rooms.append(more[0])


def plain_could_be(manual, book):
    rooms, manners = plain_counted(manual)
    could = {room for room in manual.beginnings() if room in rooms}
    for job in book:
        could = {m[2] for m in manners if m[0] in could and m[1] == job}
    return sorted(could)


def plain_left(manner, coins, purse):
    """What is left behind a manner, None if it cannot be paid."""
    effect = manner[3]
    if effect[1] > coins or (effect[0] == "fill" and effect[2] > purse):
        return None
    return coins - effect[1] if effect[0] == "coins" else purse - effect[2]


def plain_rows_to_end(manual, room, seen):
    """All lists of manners that do the jobs seen, from a room, or from any beginning, to an end."""
    rooms = manual.beginnings() if room == "" else [room]
    found = []
    for row in itertools.product(manual.manners(), repeat=len(seen)):
        if [m[1] for m in row] != list(seen) or any(one[2] != two[0] for one, two in zip(row, row[1:])):
            continue
        if row and row[0][0] in rooms and row[-1][2] in manual.ends():
            found.append(list(row))
    if not seen and any(start in manual.ends() for start in rooms):
        found.append([])
    return found


def plain_paid(row, coins, purse):
    for manner in row:
        coins = None if coins is None else plain_left(manner, coins, purse)
    return coins is not None


class PlainBoards:
    """The boards of a manual for a number of jobs seen ahead."""

    def __init__(self, manual, ahead):
        self.manual, self.ahead = manual, ahead
        self.rooms, self.manners = plain_counted(manual)
        self.jobs = plain_jobs(manual)
        self.kept = {}

    def first(self):
        return ("", (), tuple(plain_could_be(self.manual, [])))

    def is_board(self, value):
        room, seen, rooms = value
        if type(room) is not str or type(seen) is not tuple or type(rooms) is not tuple:
            return False
        if (room != "" and room not in self.rooms) or len(seen) > self.ahead:
            return False
        if any(type(word) is not str for word in seen + rooms):
            return False
        return (all(job in self.jobs for job in seen) and all(other in self.rooms for other in rooms)
                and list(rooms) == sorted(set(rooms)))

    def ends(self, board):
        return any(room in self.manual.ends() for room in board[2])

    def behind(self, rooms, job):
        return tuple(sorted({m[2] for m in self.manners if m[0] in rooms and m[1] == job}))

    def coming(self, board):
        return [job for job in self.jobs if self.behind(board[2], job)]

    def steps(self, board, job):
        """None and the board where the job is only seen, otherwise each manner and the board to which it leads."""
        room, seen, rooms = board
        others = self.behind(rooms, job)
        if len(seen) < self.ahead:
            return [(None, (room, seen + (job,), others))]
        first, left = (seen + (job,))[0], (seen + (job,))[1:]
        starts = self.manual.beginnings() if room == "" else [room]
        return [(m, (m[2], left, others)) for m in self.manners if m[0] in starts and m[1] == first]

    def rows_to_end(self, board):
        if board[:2] not in self.kept:
            self.kept[board[:2]] = plain_rows_to_end(self.manual, board[0], board[1])
        return self.kept[board[:2]]


def is_plain_rows(boards, value, length):
    if type(value) is not list or any(type(row) is not tuple or len(row) != length for row in value):
        return False
    return all(boards.is_board(row[:3]) for row in value)


def is_plain_ascending(value):
    return all(one < two for one, two in zip(value, value[1:]))


def is_plain_clerk_table(manual, purse, ahead, value):
    """Point 79, sentence by sentence."""
    boards = PlainBoards(manual, ahead)
    if not is_plain_rows(boards, value, 4) or any(not is_plain_count(row[3]) or row[3] > purse for row in value):
        return False
    if not is_plain_ascending(value) or len({row[:3] for row in value}) < len(value):
        return False
    held = {row[:3]: row[3] for row in value}
    if boards.first() not in held:
        return False
    for board, coins in held.items():
        if boards.ends(board) and not any(plain_paid(row, coins, purse) for row in boards.rows_to_end(board)):
            return False
        for job in boards.coming(board):
            fitting = 0
            for manner, other in boards.steps(board, job):
                left = coins if manner is None else plain_left(manner, coins, purse)
                fitting += left is not None and other in held and held[other] <= left
            if not fitting:
                return False
    return True


def is_plain_deed(boards, board, deed):
    if type(deed) is not str:
        return False
    return boards.ends(board) if deed == "" else deed in boards.coming(board)


def is_plain_outside_plan(manual, ahead, value):
    """Point 81, sentence by sentence."""
    boards = PlainBoards(manual, ahead)
    if not is_plain_rows(boards, value, 6):
        return False
    if any(not is_plain_deed(boards, row[:3], row[3]) for row in value):
        return False
    if any(not is_plain_count(row[4]) or not is_plain_count(row[5]) for row in value):
        return False
    if not is_plain_ascending(value) or len({row[:3] for row in value}) < len(value):
        return False
    held = {row[:3]: row[3:] for row in value}
    if boards.first() not in held:
        return False
    for board, (deed, fills, free) in held.items():
        if deed == "":
            if boards.rows_to_end(board):
                return False
            continue
        for manner, other in boards.steps(board, deed):
            if other not in held:
                return False
            _, fewer, freer = held[other]
            nearer = fewer < fills or (fewer == fills and freer < free)
            if manner is None or manner[3] == ("coins", 0):
                right = nearer
            elif manner[3][0] == "fill":
                right = fewer < fills
            else:
                right = fewer <= fills
            if not right:
                return False
    return True


def is_plain_plan_against(manual, purse, ahead, value):
    """Point 82, sentence by sentence."""
    boards = PlainBoards(manual, ahead)
    if not is_plain_rows(boards, value, 6):
        return False
    if any(not is_plain_count(row[3]) or row[3] > purse or not is_plain_count(row[5]) for row in value):
        return False
    if any(not is_plain_deed(boards, row[:3], row[4]) for row in value):
        return False
    if not is_plain_ascending(value) or len({row[:4] for row in value}) < len(value):
        return False
    if not any(row[:3] == boards.first() and row[3] == purse for row in value):
        return False
    for row in value:
        board, coins, deed, left = row[:3], row[3], row[4], row[5]
        if deed == "":
            if any(plain_paid(manners, coins, purse) for manners in boards.rows_to_end(board)):
                return False
            continue
        for manner, other in boards.steps(board, deed):
            rest = coins if manner is None else plain_left(manner, coins, purse)
            if rest is None:
                continue
            if not any(held[:3] == other and held[3] >= rest and held[5] < left for held in value):
                return False
    return True


def plain_followed(manual, purse, ahead, table, book):
    """Point 83: the book is played job by job."""
    boards = PlainBoards(manual, ahead)
    held = {row[:3]: row[3] for row in table}
    board, coins, way = boards.first(), purse, []
    for job in book:
        steps = []
        for manner, other in boards.steps(board, job):
            left = coins if manner is None else plain_left(manner, coins, purse)
            if left is not None and other in held and held[other] <= left:
                steps.append((manner, other, left))
        manner, board, coins = steps[0] if steps[0][0] is None else min(steps, key=lambda step: step[0])
        way += [] if manner is None else [manner]
    return way + min(row for row in boards.rows_to_end(board) if plain_paid(row, coins, purse))


def plain_rule_choices(manual):
    """From each key of a rule to the manners that it may tell."""
    boards = PlainBoards(manual, 0)
    found, fresh = {}, [boards.first()]
    known = set(fresh)
    while fresh:
        board = fresh.pop()
        for job in boards.coming(board):
            steps = boards.steps(board, job)
            if steps:
                found[board[0], board[2], job] = sorted(manner for manner, _ in steps)
            fresh += [other for _, other in steps if other not in known]
            known |= {other for _, other in steps}
    return found


def plain_rule_does(manual, purse, rule, book):
    """Whether a clerk with a rule does a book that can be done."""
    room, coins = "", purse
    for at, job in enumerate(book):
        key = (room, tuple(plain_could_be(manual, book[:at])), job)
        if key not in rule:
            return False
        coins = plain_left(rule[key], coins, purse)
        if coins is None:
            return False
        room = rule[key][2]
    return not book or room in manual.ends()


def clerk_can(manual, purse, ahead, size):
    """Whether a clerk can play so that he does all books of at most so many jobs, by trying all that can come."""
    boards = PlainBoards(manual, ahead)
    kept = {}

    def can(board, coins, left):
        key = (board, coins, left)
        if key not in kept:
            kept[key] = reckon(board, coins, left)
        return kept[key]

    def reckon(board, coins, left):
        if boards.ends(board) and not any(plain_paid(row, coins, purse) for row in boards.rows_to_end(board)):
            return False
        for job in boards.coming(board) if left else []:
            fitting = False
            for manner, other in boards.steps(board, job):
                rest = coins if manner is None else plain_left(manner, coins, purse)
                fitting = fitting or (rest is not None and can(other, rest, left - 1))
            if not fitting:
                return False
        return True
    return can(boards.first(), purse, size)
