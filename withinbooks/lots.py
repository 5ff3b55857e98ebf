"""Lots of jobs, manners and changes, of arguments that have been checked."""

from withinbooks.changes import parts_changed
from withinbooks.shapes import MOST_COINS


def all_lots(things):
    """All lots of an ascending list of things."""
    lots = [[]]
    for thing in things:
        lots = lots + [lot + [thing] for lot in lots]
    return lots


def lies_within(lot, other):
    """Whether all that is in a lot is in another one."""
    return all([thing in other for thing in lot])


def least_lots(lots):
    """The ascending list of the lots within which none of the others lies."""
    return sorted([lot for lot in lots if not any([lies_within(other, lot) for other in lots if other != lot])])


def greatest_lots(lots):
    """The ascending list of the lots that lie within none of the others."""
    return sorted([lot for lot in lots if not any([lies_within(lot, other) for other in lots if other != lot])])


def spends(manner):
    """Whether a manner spends, and does not fill."""
    return manner[3][0] == "coins" and manner[3][1] > 0


def fills(manner):
    """Whether a manner fills."""
    return manner[3][0] == "fill"


def free_effect(effect):
    """The effect of a manner that is made free."""
    return ("coins", 0)


def filling_effect(effect):
    """The effect of a manner that spends and is made filling."""
    return ("fill", effect[1], 0)


def emptied_effect(effect):
    """The effect of a manner that fills and is emptied."""
    return ("coins", min(MOST_COINS, effect[1] + effect[2]))


def manners_with(manners, lot, effect_for):
    """The list of some manners, those of a lot with other effects, each once."""
    made = [manner[:3] + (effect_for(manner[3]),) if manner in lot else manner for manner in manners]
    return sorted(set(made))


def parts_of_lot(parts, changes, lot):
    """The parts of a manual with a lot of changes, one behind the other, None if one does not fit."""
    for at in lot:
        parts = parts_changed(parts, changes[at])
        if parts is None:
            return None
    return parts
