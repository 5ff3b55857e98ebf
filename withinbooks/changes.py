"""Changes of manuals, of arguments that have been checked.

A manual stands here as its parts: the lists of its manners, beginnings and ends.
"""


def with_one(values, one):
    """A list with one thing more, None if it is there."""
    if one in values:
        return None
    return values + [one]


def without_one(values, one):
    """A list without a thing, None if it is not there."""
    if one not in values:
        return None
    return [value for value in values if value != one]


def with_effect(manners, manner, effect):
    """Manners of which one got another effect, None if that does not fit."""
    made = manner[:3] + (effect,)
    if manner not in manners or made in manners:
        return None
    return [made if held == manner else held for held in manners]


def parts_changed(parts, change):
    """The parts with a change, None if it does not fit."""
    manners, beginnings, ends = parts
    word, one = change[0], change[1]
    if word == "put":
        manners = with_one(manners, one)
    elif word == "out":
        manners = without_one(manners, one)
    elif word == "effect":
        manners = with_effect(manners, one, change[2])
    elif word == "start":
        beginnings = with_one(beginnings, one)
    elif word == "unstart":
        beginnings = without_one(beginnings, one)
    elif word == "stop":
        ends = with_one(ends, one)
    else:
        ends = without_one(ends, one)
    if manners is None or beginnings is None or ends is None:
        return None
    return (manners, beginnings, ends)


def manner_changes(elder, newer):
    """The fewest changes that lead from the one list of manners to the other one."""
    changes = []
    coming = [manner for manner in newer if manner not in elder]
    for manner in elder:
        if manner in newer:
            continue
        twins = [twin for twin in coming if twin[:3] == manner[:3]]
        if twins:
            changes.append(("effect", manner, twins[0][3]))
            coming.remove(twins[0])
        else:
            changes.append(("out", manner))
    return changes + [("put", manner) for manner in coming]


def room_changes(elder, newer, word):
    """The changes that lead from the one list of rooms to the other one: a word, or un and the word."""
    gone = [("un" + word, room) for room in elder if room not in newer]
    return gone + [(word, room) for room in newer if room not in elder]


def fewest_changes(elder, newer):
    """A list of the fewest changes that lead from one manual to the other."""
    changes = manner_changes(elder.manners(), newer.manners())
    changes = changes + room_changes(elder.beginnings(), newer.beginnings(), "start")
    return changes + room_changes(elder.ends(), newer.ends(), "stop")
