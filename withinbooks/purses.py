"""What books leave of a purse, and what they need, of arguments that have been checked.

A spot is a tuple of a room and of how many fills led to it; where fills are not
counted, their number stays 0. Nothing is lost by having more coins at a spot: so of
all beginning parts that lead there only one that leaves the most coins is kept.
"""

from withinbooks.shapes import MOST_COINS


def stretches_of(way):
    """The stretches of a way, or of a beginning part."""
    sums = [0]
    for manner in way:
        effect = manner[3]
        sums[-1] += effect[1]
        if effect[0] == "fill":
            sums.append(effect[2])
    return sums


def fills_in(way):
    """How many manners of a way fill."""
    return len(stretches_of(way)) - 1


def coins_left(effect, coins, purse):
    """What an effect leaves of so many coins, None if they are too few."""
    if effect[1] > coins:
        return None
    if effect[0] == "coins":
        return coins - effect[1]
    if effect[2] > purse:
        return None
    return purse - effect[2]


def spot_behind(spot, manner, counted):
    """The spot to which a manner leads from a spot."""
    if counted and manner[3][0] == "fill":
        return (manner[2], spot[1] + 1)
    return (manner[2], spot[1])


def row_behind(row, manners, purse, counted):
    """The row, as in rows_of_book, behind one job more, which these manners do."""
    found = {}
    for spot, held in row.items():
        for manner in manners:
            left = None
            if manner[0] == spot[0]:
                left = coins_left(manner[3], held[0], purse)
            goal = spot_behind(spot, manner, counted)
            if left is not None and (goal not in found or left > found[goal][0]):
                found[goal] = (left, spot, manner)
    return found


def rows_of_book(manual, book, purse, counted):
    """A row for each number of first jobs: a dictionary from the spots to which they lead.

    What stands there is a tuple: the most coins that can be left at the spot, and from
    which spot, and by which manner, a beginning part comes that leaves them.
    """
    manners = manual.manners()
    rows = [{(room, 0): (purse, None, None) for room in manual.beginnings()}]
    for job in book:
        doing = [manner for manner in manners if manner[1] == job]
        rows.append(row_behind(rows[-1], doing, purse, counted))
    return rows


def end_spots(manual, rows):
    """The list of the spots at ends to which the whole book leads, those with the fewest fills first."""
    ends = manual.ends()
    spots = [(fills, room) for room, fills in rows[-1] if room in ends]
    return [(room, fills) for fills, room in sorted(spots)]


def way_to(rows, goal):
    """A beginning part to a spot of the last row that leaves the most coins there."""
    way = []
    spot = goal
    for row in rows[:0:-1]:
        held = row[spot]
        way.append(held[2])
        spot = held[1]
    return way[::-1]


def is_served(manual, book, purse):
    """Whether some way of a book is within a purse."""
    return len(end_spots(manual, rows_of_book(manual, book, purse, False))) > 0


def least_need(manual, book):
    """The least need of a way of a book, None if it has none."""
    # A fill spends a in one stretch and b in the next one: no job spends more in any stretch.
    low, high = 0, MOST_COINS * len(book)
    if not is_served(manual, book, high):
        return None
    while low < high:
        middle = (low + high) // 2
        if is_served(manual, book, middle):
            high = middle
        else:
            low = middle + 1
    return low


def way_within(manual, book, purse, counted):
    """A way of a book within a purse, with the fewest fills if they are counted, None if there is none."""
    rows = rows_of_book(manual, book, purse, counted)
    spots = end_spots(manual, rows)
    if not spots:
        return None
    return way_to(rows, spots[0])


def least_paper(manual, book, purse):
    """The paper with just the coins that can be left, None if some way is within the purse."""
    rows = rows_of_book(manual, book, purse, False)
    if end_spots(manual, rows):
        return None
    return [{spot[0]: row[spot][0] for spot in sorted(row)} for row in rows]


def upholds(row, below, manners, purse):
    """Whether what the manners of a job leave of the coins in a row stands in the row below it."""
    for manner in manners:
        left = None
        if manner[0] in row:
            left = coins_left(manner[3], row[manner[0]], purse)
        if left is not None and (manner[2] not in below or below[manner[2]] < left):
            return False
    return True
