"""Rooms, jobs and rows of manners, of arguments that have been checked."""

from withinbooks.shapes import has_manner_form


def all_rooms(manual):
    """The ascending list of a manual's rooms."""
    rooms = set(manual.beginnings() + manual.ends())
    for manner in manual.manners():
        rooms.add(manner[0])
        rooms.add(manner[2])
    return sorted(rooms)


def all_jobs(manual):
    """The ascending list of a manual's jobs."""
    return sorted({manner[1] for manner in manual.manners()})


def rows_from(manners, starts):
    """For each room that can be reached from some rooms a shortest row of manners to it."""
    rows = {room: [] for room in starts}
    fresh = starts
    while fresh:
        reached = []
        for room in fresh:
            for manner in manners:
                if manner[0] == room and manner[2] not in rows:
                    rows[manner[2]] = rows[room] + [manner]
                    reached.append(manner[2])
        fresh = reached
    return rows


def rows_to(manners, goals):
    """For each room from which some rooms can be reached a shortest row of manners to one."""
    rows = {room: [] for room in goals}
    fresh = goals
    while fresh:
        reached = []
        for room in fresh:
            for manner in manners:
                if manner[2] == room and manner[0] not in rows:
                    rows[manner[0]] = [manner] + rows[room]
                    reached.append(manner[0])
        fresh = reached
    return rows


def living_rooms(manual):
    """The rooms that are not dead."""
    return list(rows_to(manual.manners(), manual.ends()))


def busy_rooms(manual):
    """The rooms that are neither dead nor lost."""
    reached = rows_from(manual.manners(), manual.beginnings())
    return [room for room in living_rooms(manual) if room in reached]


def shortest_used(manual, manner):
    """A shortest way in which a manner stands, None if there is none."""
    ahead = rows_from(manual.manners(), manual.beginnings())
    behind = rows_to(manual.manners(), manual.ends())
    if manner[0] not in ahead or manner[2] not in behind:
        return None
    return ahead[manner[0]] + [manner] + behind[manner[2]]


def shortest_way(manual):
    """A shortest way of any book, None if no book has one."""
    rows = rows_from(manual.manners(), manual.beginnings())
    ways = [rows[room] for room in manual.ends() if room in rows]
    return min(ways, key=len, default=None)


def is_some_part(manual, value):
    """Whether any object is a part of a way."""
    if not isinstance(value, list):
        return False
    manners = manual.manners()
    if not all([has_manner_form(manner) and manner in manners for manner in value]):
        return False
    return all([value[at - 1][2] == value[at][0] for at in range(1, len(value))])


def is_some_way(manual, value):
    """Whether any object is a way of some book."""
    if not is_some_part(manual, value):
        return False
    if not value:
        return any([room in manual.ends() for room in manual.beginnings()])
    return value[0][0] in manual.beginnings() and value[-1][2] in manual.ends()
