"""What one manual does and another one misses, of arguments that have been checked.

A side is a tuple of a room of the elder manual and a crowd of the newer one.
"""

from withinbooks.crowds import crowd_behind, first_crowd, goals_of, has_end
from withinbooks.paths import all_rooms
from withinbooks.shapes import are_unlike, is_ascending, is_tuple_of


def sides_of(elder, newer):
    """From each side that some book leads to, to a shortest such book; those of shorter books first."""
    goals, manners = goals_of(newer), elder.manners()
    found = {(room, first_crowd(newer)): [] for room in elder.beginnings()}
    fresh = list(found)
    while fresh:
        reached = []
        for side in fresh:
            for manner in manners:
                other = (manner[2], crowd_behind(goals, side[1], manner[1]))
                if manner[0] == side[0] and other not in found:
                    found[other] = found[side] + [manner[1]]
                    reached.append(other)
        fresh = reached
    return found


def is_missed_side(elder, newer, side):
    """Whether a book that leads to a side is done by the elder manual, and not by the newer one."""
    return side[0] in elder.ends() and not has_end(newer, side[1])


def shortest_missed(elder, newer):
    """A shortest book that the elder manual does and the newer one does not, None if there is none."""
    for side, book in sides_of(elder, newer).items():
        if is_missed_side(elder, newer, side):
            return book
    return None


def any_doing_table(elder, newer):
    """A doing table, None if there is none."""
    sides = list(sides_of(elder, newer))
    if any([is_missed_side(elder, newer, side) for side in sides]):
        return None
    return sides


def is_side_list(elder, newer, value):
    """Whether any object is a list of unlike tuples of an elder room and an ascending tuple of newer ones."""
    if not isinstance(value, list):
        return False
    rooms, others = all_rooms(elder), all_rooms(newer)
    if not all([is_tuple_of(side, 2) and isinstance(side[1], tuple) for side in value]):
        return False
    if not all([side[0] in rooms and all([room in others for room in side[1]]) for side in value]):
        return False
    return all([is_ascending(side[1]) for side in value]) and are_unlike(value)


def has_part(crowds, crowd):
    """Whether all rooms of one of some crowds stand in a crowd."""
    return any([all([room in crowd for room in part]) for part in crowds])


def is_any_doing_table(elder, newer, value):
    """Whether any object is a doing table."""
    if not is_side_list(elder, newer, value):
        return False
    if any([is_missed_side(elder, newer, side) for side in value]):
        return False
    crowds = {room: [side[1] for side in value if side[0] == room] for room in all_rooms(elder)}
    if not all([has_part(crowds[room], newer.beginnings()) for room in elder.beginnings()]):
        return False
    return all([is_side_upheld(elder, goals_of(newer), crowds, side) for side in value])


def is_side_upheld(elder, goals, crowds, side):
    """Whether the table has what each manner of a side's room leads to."""
    for manner in elder.manners():
        if manner[0] == side[0] and not has_part(crowds[manner[2]], crowd_behind(goals, side[1], manner[1])):
            return False
    return True
