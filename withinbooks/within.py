"""Whether the newer edition stays within the elder one (points 54 to 56)."""

from withinbooks.closures import is_closed
from withinbooks.expressions import leaves_of
from withinbooks.ledgers import PairLedger
from withinbooks.lots import free_effect, manners_with
from withinbooks.manuals import Manual, check_both, check_manual, check_manuals
from withinbooks.pairs import Pairs, is_any_escape, jobs_of_both
from withinbooks.paths import all_jobs, all_rooms
from withinbooks.shapes import has_card_form, is_ascending, is_tuple_of


def least_pairs(elder, newer):
    """The pair table that lies within all others."""
    check_both(elder, newer)
    pairs = Pairs(elder, newer)
    return pairs.told(pairs.numbers)


def is_pair_table(elder, newer, value):
    """Whether any object is a pair table."""
    check_both(elder, newer)
    if not isinstance(value, list) or not all([is_tuple_of(pair, 2) for pair in value]):
        return False
    size, other_size = len(all_rooms(elder)), len(all_rooms(newer))
    if not all([has_card_form(one, size) and has_card_form(other, other_size) for one, other in value]):
        return False
    ledger = PairLedger(elder, newer)
    numbers = [ledger.enter_told(pair) for pair in value]
    return is_ascending(value) and is_closed(ledger, jobs_of_both(elder, newer), numbers)


def bad_pairs(elder, newer):
    """The ascending list of the bad pairs of the least pair table."""
    check_both(elder, newer)
    pairs = Pairs(elder, newer)
    return pairs.told(pairs.bad_ones())


def is_within(elder, newer):
    """Whether the newer edition stays within the elder one."""
    check_both(elder, newer)
    return Pairs(elder, newer).is_calm()


def escape(elder, newer):
    """An escape with as few jobs as can be, None if there is none."""
    check_both(elder, newer)
    return Pairs(elder, newer).escape_over(all_jobs(elder))


def escape_size(elder, newer):
    """How many jobs an escape has at least, None if there is none."""
    found = escape(elder, newer)
    if found is None:
        return None
    return len(leaves_of(found))


def is_escape(elder, newer, value):
    """Whether any object is an escape."""
    check_both(elder, newer)
    return is_any_escape(elder, newer, value)


def are_alike(one, other):
    """Whether each of two manuals stays within the other one."""
    check_both(one, other)
    pairs = Pairs(one, other)
    return pairs.is_calm() and pairs.is_calm_turned()


def freed(manual):
    """The manual in which no manner spends or fills."""
    check_manual(manual)
    manners = manual.manners()
    return Manual(manners_with(manners, manners, free_effect), manual.beginnings(), manual.ends())


def within_along(editions):
    """Whether each manual of a list stays within the first one."""
    check_manuals(editions)
    # All of them are looked at: any one may have too many pairs.
    return all([Pairs(editions[0], newer).is_calm() for newer in editions[1:]])
