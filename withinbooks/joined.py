"""Manners and rooms of manuals that are made of others, of arguments that have been checked.

A place is whatever stands for a room until all rooms get words of their own.
"""

from withinbooks.words import words_for


def worded(manners, beginnings, ends):
    """Manners, beginnings and ends with words for their places, each manner once."""
    places = set(beginnings + ends)
    for manner in manners:
        places.add(manner[0])
        places.add(manner[2])
    words = words_for(sorted(places))
    made = {(words[manner[0]], manner[1], words[manner[2]], manner[3]): True for manner in manners}
    return (list(made), [words[place] for place in beginnings], [words[place] for place in ends])


def placed_manners(manual, part):
    """The manners of a manual with tuples of the number of a part and the room as places."""
    return [((part, manner[0]), manner[1], (part, manner[2]), manner[3]) for manner in manual.manners()]


def placed_rooms(rooms, part):
    """The places of some rooms of a part."""
    return [(part, room) for room in rooms]


def does_nothing(manual):
    """Whether a manual does the empty book."""
    ends = manual.ends()
    return any([room in ends for room in manual.beginnings()])


def leaves_full(manual):
    """Whether no manner that leads to an end spends behind its fill."""
    ends = manual.ends()
    last = [manner[3] for manner in manual.manners() if manner[2] in ends]
    return not any([effect[0] == "fill" and effect[2] > 0 for effect in last])


def filling_on(manual, part, goals):
    """The manners that do what leads to an end, fill behind it, and lead to one of some places instead."""
    ends = manual.ends()
    last = [manner for manner in placed_manners(manual, part) if manner[2][1] in ends]
    return [(manner[0], manner[1], goal, ("fill", manner[3][1], 0)) for manner in last for goal in goals]
