"""Marks and cards as numbers, of arguments that have been checked.

The number of a mark is its place in MARKS: the best one of some marks has the least
number. A coded card is a tuple of rows, each a tuple of such numbers.
"""

from withinbooks.paths import all_rooms
from withinbooks.shapes import MARKS

FULL = 0
FREE = 1
SOME = 2
MANY = 3
NEVER = 4

# For each two marks the one that comes later in the order free, some, full, many, never.
BEHIND = (
    (0, 0, 0, 3, 4),
    (0, 1, 2, 3, 4),
    (0, 2, 2, 3, 4),
    (3, 3, 3, 3, 4),
    (4, 4, 4, 4, 4),
)


def coded_mark(mark):
    """The number of a mark."""
    return MARKS.index(mark)


def coded_card(card):
    """A card with numbers instead of marks."""
    return tuple([tuple([coded_mark(mark) for mark in row]) for row in card])


def told_card(card):
    """A coded card with marks instead of numbers."""
    return tuple([tuple([MARKS[mark] for mark in row]) for row in card])


def manner_mark(manner):
    """The mark of a manner alone."""
    if manner[3][0] == "fill":
        return FULL
    if manner[3][1] == 0:
        return FREE
    return SOME


def part_mark(part):
    """The mark of a part of a way."""
    mark = FREE
    for manner in part:
        mark = BEHIND[mark][manner_mark(manner)]
    return mark


def empty_card(size):
    """The card of the empty book, for so many rooms."""
    return tuple([tuple([FREE if at == goal else NEVER for goal in range(size)]) for at in range(size)])


def job_card(manual, job):
    """The card of the book of one job alone."""
    rooms = all_rooms(manual)
    marks = {}
    for manner in manual.manners():
        if manner[1] == job:
            ends = (manner[0], manner[2])
            marks[ends] = min(manner_mark(manner), marks.get(ends, NEVER))
    return tuple([tuple([marks.get((room, goal), NEVER) for goal in rooms]) for room in rooms])


def card_behind(one, other):
    """The card that two cards make, put behind one another."""
    columns = [[row[at] for row in other] for at in range(len(other))]
    return tuple([tuple([best_behind(row, column) for column in columns]) for row in one])


def best_behind(row, column):
    """The best mark that a row of one card and a column of another one make, room by room."""
    return min([BEHIND[mark][other] for mark, other in zip(row, column)])


def book_card(manual, book):
    """The card of a book."""
    cards = {job: job_card(manual, job) for job in book}
    made = empty_card(len(all_rooms(manual)))
    for job in book:
        made = card_behind(made, cards[job])
    return made


def is_steady_card(card):
    """Whether a card put behind itself is itself."""
    return card_behind(card, card) == card


def power_of(card):
    """The least number of copies that put behind one another are a steady card."""
    power = 1
    made = card
    while not is_steady_card(made):
        power += 1
        made = card_behind(made, card)
    return power


def steady_card(card):
    """The steady card that copies of a card are."""
    made = card
    while not is_steady_card(made):
        made = card_behind(made, card)
    return made


def again_card(card):
    """The card of doing again and again what has this card."""
    steady = steady_card(card)
    return card_behind(card_behind(steady, stays_of(steady)), steady)


def stays_of(card):
    """The card that leads from each room to itself alone, however often some coins are spent there."""
    size = len(card)
    marks = [MANY if card[at][at] == SOME else card[at][at] for at in range(size)]
    return tuple([tuple([marks[at] if at == goal else NEVER for goal in range(size)]) for at in range(size)])


def rooms_at(manual, some):
    """The places of some rooms in the ascending list of a manual's rooms."""
    rooms = all_rooms(manual)
    return [rooms.index(room) for room in some]


def card_value(card, starts, goals):
    """The best mark of a coded card between rooms at some places and rooms at others."""
    return min([card[start][goal] for start in starts for goal in goals], default=NEVER)


def best_rows(manual, book, room):
    """A row for each number of first jobs: a dictionary from the rooms to which parts from a room lead.

    What stands there is a tuple: the best mark of such a part, and from which room, and by
    which manner, one comes that has it. Better parts ahead never make worse ones.
    """
    rows = [{room: (FREE, None, None)}]
    manners = manual.manners()
    for job in book:
        found = {}
        for manner in manners:
            if manner[1] != job or manner[0] not in rows[-1]:
                continue
            mark = BEHIND[rows[-1][manner[0]][0]][manner_mark(manner)]
            if manner[2] not in found or mark < found[manner[2]][0]:
                found[manner[2]] = (mark, manner[0], manner)
        rows.append(found)
    return rows
