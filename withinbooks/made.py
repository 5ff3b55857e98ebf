"""Manuals made of others (points 85 to 90)."""

from withinbooks.errors import InvalidCount, InvalidManual
from withinbooks.joined import does_nothing, filling_on, leaves_full, placed_manners, placed_rooms, worded
from withinbooks.manuals import Manual, check_both, check_manual, lean, struck, trimmed
from withinbooks.needs import first_unlike
from withinbooks.paths import all_rooms
from withinbooks.shapes import is_count

MOST_JOBS = 4


def _manual_of(manners, beginnings, ends):
    """A manual with words for places, without what no book needs: so it is as small as the limits ask for."""
    manners, beginnings, ends = worded(manners, beginnings, ends)
    return lean(trimmed(Manual(manners, beginnings, ends)))


def _check_full(manual):
    check_manual(manual)
    if not leaves_full(manual):
        raise InvalidManual(manual)


def either_of(one, other):
    """A manual that needs for every book the lesser of what two manuals need."""
    check_both(one, other)
    manners = placed_manners(one, 0) + placed_manners(other, 1)
    beginnings = placed_rooms(one.beginnings(), 0) + placed_rooms(other.beginnings(), 1)
    return _manual_of(manners, beginnings, placed_rooms(one.ends(), 0) + placed_rooms(other.ends(), 1))


def followed_by(one, other):
    """A manual that does a beginning of each book by one manual, and the rest by another one with a full purse."""
    _check_full(one)
    check_manual(other)
    starts, goals = placed_rooms(other.beginnings(), 1), placed_rooms(other.ends(), 1)
    manners = placed_manners(one, 0) + filling_on(one, 0, starts) + placed_manners(other, 1)
    beginnings = placed_rooms(one.beginnings(), 0)
    if does_nothing(one):
        beginnings = beginnings + starts
    if does_nothing(other):
        goals = goals + placed_rooms(one.ends(), 0)
    return _manual_of(manners, beginnings, goals)


def repeated(manual):
    """A manual that does books one behind the other, each with a full purse."""
    _check_full(manual)
    beginnings, ends = placed_rooms(manual.beginnings(), 0), placed_rooms(manual.ends(), 0)
    manners = placed_manners(manual, 0) + filling_on(manual, 0, beginnings)
    if not does_nothing(manual):
        # The book that is cut into no books begins and ends in a room of its own.
        beginnings, ends = beginnings + [(1, "")], ends + [(1, "")]
    return _manual_of(manners, beginnings, ends)


def begun(manual):
    """A manual that needs for every book what the beginnings of longer books with it need up to its end."""
    check_manual(manual)
    alive = struck(manual)
    return Manual(alive.manners(), alive.beginnings(), all_rooms(alive))


def _turned(effect):
    if effect[0] == "coins":
        return effect
    return ("fill", effect[2], effect[1])


def mirrored(manual):
    """A manual that needs for every book what the book turned about needs."""
    check_manual(manual)
    manners = [(other, job, room, _turned(effect)) for room, job, other, effect in manual.manners()]
    return Manual(manners, manual.ends(), manual.beginnings())


def limited_to(manual, other):
    """A manual that needs what the first one does for the books that the other one can do, and does no others."""
    check_both(manual, other)
    moves = [(manner[0], manner[1], manner[2]) for manner in other.manners()]
    manners = [((manner[0], room), manner[1], (manner[2], goal), manner[3])
               for manner in manual.manners() for room, job, goal in moves if job == manner[1]]
    beginnings = [(room, start) for room in manual.beginnings() for start in other.beginnings()]
    return _manual_of(manners, beginnings, [(room, end) for room in manual.ends() for end in other.ends()])


def unlike_book(one, other, most):
    """The first book of at most so many jobs at which the needs by two manuals are unlike, None if there is none."""
    check_both(one, other)
    if not is_count(most) or most > MOST_JOBS:
        raise InvalidCount(most)
    return first_unlike(one, other, most)
