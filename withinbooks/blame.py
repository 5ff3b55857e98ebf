"""Blamed jobs, cures and fills (points 63 to 68)."""

from withinbooks.errors import InvalidChanges, InvalidLot, Refused, TooMany
from withinbooks.expressions import has_jobs_of
from withinbooks.lots import all_lots, emptied_effect, filling_effect, fills, free_effect, greatest_lots
from withinbooks.lots import least_lots, manners_with, parts_of_lot, spends
from withinbooks.manuals import Manual, check_both, check_manual
from withinbooks.pairs import Pairs, is_any_escape, jobs_of_both
from withinbooks.paths import all_jobs
from withinbooks.shapes import has_book_form, has_changes_form, has_manner_form, is_ascending, is_count

MOST_MANNERS = 4


def over_jobs(manual, lot):
    """The manual with the manners of a lot of jobs alone."""
    check_manual(manual)
    if not has_book_form(lot) or not is_ascending(lot):
        raise InvalidLot(lot)
    manners = [manner for manner in manual.manners() if manner[1] in lot]
    return Manual(manners, manual.beginnings(), manual.ends())


def _blamed_lots(pairs, elder):
    lots = all_lots(all_jobs(elder))
    return least_lots([lot for lot in lots if not pairs.is_calm_over(lot)])


def blamed_jobs(elder, newer):
    """The ascending list of the least lots of jobs over which the newer edition does not stay within."""
    check_both(elder, newer)
    return _blamed_lots(Pairs(elder, newer), elder)


def safe_jobs(elder, newer):
    """The ascending list of the greatest lots of jobs over which the newer edition stays within."""
    check_both(elder, newer)
    pairs = Pairs(elder, newer)
    lots = all_lots(jobs_of_both(elder, newer))
    return greatest_lots([lot for lot in lots if pairs.is_calm_over(lot)])


def blame_escapes(elder, newer):
    """A list of escapes, one for each of the blamed lots of jobs, with jobs of this lot alone."""
    check_both(elder, newer)
    pairs = Pairs(elder, newer)
    return [pairs.escape_over(lot) for lot in _blamed_lots(pairs, elder)]


def are_blame_escapes(elder, newer, value):
    """Whether any object is such a list as blame_escapes returns."""
    check_both(elder, newer)
    lots = _blamed_lots(Pairs(elder, newer), elder)
    if not isinstance(value, list) or len(value) != len(lots):
        return False
    if not all([is_any_escape(elder, newer, one) for one in value]):
        return False
    return all([has_jobs_of(one, lot) for one, lot in zip(value, lots)])


def _check_lot(lot, manners):
    if not isinstance(lot, list) or not all([has_manner_form(manner) and manner in manners for manner in lot]):
        raise InvalidLot(lot)
    if not is_ascending(lot):
        raise InvalidLot(lot)


def _spending(manual):
    return [manner for manner in manual.manners() if spends(manner)]


def _filling(manual):
    return [manner for manner in manual.manners() if fills(manner)]


def _with_effects(manual, lot, effect_for):
    return Manual(manners_with(manual.manners(), lot, effect_for), manual.beginnings(), manual.ends())


def made_free(manual, lot):
    """The manual in which the manners of a lot spend nothing."""
    check_manual(manual)
    _check_lot(lot, _spending(manual))
    return _with_effects(manual, lot, free_effect)


def made_filling(manual, lot):
    """The manual in which the manners of a lot fill behind what they spend."""
    check_manual(manual)
    _check_lot(lot, _spending(manual))
    return _with_effects(manual, lot, filling_effect)


def emptied(manual, lot):
    """The manual in which the manners of a lot spend what they did, and do not fill."""
    check_manual(manual)
    _check_lot(lot, _filling(manual))
    return _with_effects(manual, lot, emptied_effect)


def _calm_lots(elder, newer, manners, effect_for):
    """The lots of some manners with other effects for which the newer edition stays within."""
    if len(manners) > MOST_MANNERS:
        raise TooMany(MOST_MANNERS)
    lots = all_lots(manners)
    calm = [Pairs(elder, _with_effects(newer, lot, effect_for)).is_calm() for lot in lots]
    return [lot for lot, is_calm in zip(lots, calm) if is_calm]


def cures(elder, newer):
    """The ascending list of the least lots of manners that, made free, let the newer edition stay within."""
    check_both(elder, newer)
    return least_lots(_calm_lots(elder, newer, _spending(newer), free_effect))


def fill_cures(elder, newer):
    """The ascending list of the least lots of manners that, made filling, let the newer edition stay within."""
    check_both(elder, newer)
    return least_lots(_calm_lots(elder, newer, _spending(newer), filling_effect))


def _spare_lots(elder, newer):
    lots = _calm_lots(elder, newer, _filling(newer), emptied_effect)
    if [] not in lots:
        raise Refused(newer)
    return greatest_lots(lots)


def spare_fills(elder, newer):
    """The ascending list of the greatest lots of fills without which the newer edition stays within."""
    check_both(elder, newer)
    return _spare_lots(elder, newer)


def needed_fills(elder, newer):
    """The ascending list of the manners that fill and are in none of the lots that can be spared."""
    check_both(elder, newer)
    spared = [manner for lot in _spare_lots(elder, newer) for manner in lot]
    return [manner for manner in _filling(newer) if manner not in spared]


def _check_changes(elder, changes):
    check_manual(elder)
    if not has_changes_form(changes):
        raise InvalidChanges(changes)


def _edition(elder, changes, lot):
    parts = parts_of_lot((elder.manners(), elder.beginnings(), elder.ends()), changes, lot)
    if parts is None:
        return None
    return Manual(parts[0], parts[1], parts[2])


def lot_edition(elder, changes, lot):
    """The edition that a lot of changes makes of the elder one, None if one of them does not fit."""
    _check_changes(elder, changes)
    if not isinstance(lot, list) or not all([is_count(at) and at < len(changes) for at in lot]):
        raise InvalidLot(lot)
    if not is_ascending(lot):
        raise InvalidLot(lot)
    return _edition(elder, changes, lot)


def _judged_lots(elder, changes):
    """Each lot of changes that has an edition, with whether this stays within the elder one."""
    lots = all_lots(list(range(len(changes))))
    editions = [(lot, _edition(elder, changes, lot)) for lot in lots]
    return [(lot, Pairs(elder, edition).is_calm()) for lot, edition in editions if edition is not None]


def straying_lots(elder, changes):
    """The ascending list of the least lots of changes whose edition does not stay within the elder one."""
    _check_changes(elder, changes)
    return least_lots([lot for lot, stays in _judged_lots(elder, changes) if not stays])


def staying_lots(elder, changes):
    """The ascending list of the greatest lots of changes whose edition stays within the elder one."""
    _check_changes(elder, changes)
    return greatest_lots([lot for lot, stays in _judged_lots(elder, changes) if stays])
