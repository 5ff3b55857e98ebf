"""Covers of two manuals, of arguments that have been checked."""

from withinbooks.effects import is_never_more
from withinbooks.paths import all_rooms
from withinbooks.shapes import is_ascending, is_tuple_of


def answers(manner, own, pair, pairs):
    """Whether a newer manner in the pair's other room stands for the own elder one."""
    if manner[0] != pair[1] or manner[1] != own[1] or (own[2], manner[2]) not in pairs:
        return False
    return is_never_more(manner[3], own[3])


def is_upheld(elder, newer, pair, pairs):
    """Whether a pair of rooms may stand in a list of pairs."""
    if pair[0] in elder.ends() and pair[1] not in newer.ends():
        return False
    manners = newer.manners()
    for own in elder.manners():
        if own[0] == pair[0] and not any([answers(manner, own, pair, pairs) for manner in manners]):
            return False
    return True


def greatest_cover(elder, newer):
    """The cover that has all pairs that stand in any."""
    pairs = [(room, other) for room in all_rooms(elder) for other in all_rooms(newer)]
    kept = [pair for pair in pairs if is_upheld(elder, newer, pair, pairs)]
    while len(kept) < len(pairs):
        pairs = kept
        kept = [pair for pair in pairs if is_upheld(elder, newer, pair, pairs)]
    return kept


def is_pair_list(elder, newer, value):
    """Whether any object is an ascending list of tuples of a room of each manual."""
    if not isinstance(value, list):
        return False
    rooms, others = all_rooms(elder), all_rooms(newer)
    if not all([is_tuple_of(pair, 2) and pair[0] in rooms and pair[1] in others for pair in value]):
        return False
    return is_ascending(value)


def is_any_cover(elder, newer, value):
    """Whether any object is a cover."""
    if not is_pair_list(elder, newer, value):
        return False
    return all([is_upheld(elder, newer, pair, value) for pair in value])


def are_beginnings_covered(elder, newer):
    """Whether each beginning of the elder manual stands with one of the newer in the greatest cover."""
    pairs = greatest_cover(elder, newer)
    for room in elder.beginnings():
        if not any([(room, other) in pairs for other in newer.beginnings()]):
            return False
    return True
