"""Manuals: words, effects, manners, changes and covers (points 10 to 18)."""

from withinbooks.changes import fewest_changes, parts_changed
from withinbooks.checks import check_count, check_effect, check_manner, check_room, check_word
from withinbooks.covers import are_beginnings_covered, greatest_cover, is_any_cover
from withinbooks.effects import is_never_more, sides_apart, worth
from withinbooks.errors import InvalidChange, InvalidChanges, InvalidManners, InvalidManual, InvalidManuals
from withinbooks.errors import InvalidRooms
from withinbooks.paths import all_jobs, all_rooms, busy_rooms, is_some_way, living_rooms, shortest_used
from withinbooks.shapes import has_change_form, has_changes_form, has_effect_form, has_manner_form
from withinbooks.shapes import has_manners_form, has_rooms_form, has_word_form, is_count, is_tuple_of


class Manual:
    """Manners, and the rooms at which books may begin and end. It never changes."""

    def __init__(self, manners, beginnings, ends):
        if not has_manners_form(manners):
            raise InvalidManners(manners)
        if not has_rooms_form(beginnings):
            raise InvalidRooms(beginnings)
        if not has_rooms_form(ends):
            raise InvalidRooms(ends)
        self._manners = sorted(manners)
        self._beginnings = sorted(beginnings)
        self._ends = sorted(ends)

    def manners(self):
        """The ascending list of the manners."""
        return list(self._manners)

    def beginnings(self):
        """The ascending list of the rooms at which books may begin."""
        return list(self._beginnings)

    def ends(self):
        """The ascending list of the rooms at which books may end."""
        return list(self._ends)

    def __eq__(self, other):
        return (isinstance(other, Manual) and self._manners == other._manners
                and self._beginnings == other._beginnings and self._ends == other._ends)


def check_manual(value):
    """InvalidManual unless an object is a manual."""
    if not isinstance(value, Manual):
        raise InvalidManual(value)


def check_both(one, other):
    """InvalidManual with the first of two objects that is no manual."""
    check_manual(one)
    check_manual(other)


def check_manuals(value):
    """InvalidManuals unless an object is a list of manuals that is not empty."""
    if not isinstance(value, list) or not value or not all([isinstance(one, Manual) for one in value]):
        raise InvalidManuals(value)


def is_word(value):
    """Whether any object is a word."""
    return has_word_form(value)


def is_effect(value):
    """Whether any object is an effect."""
    return has_effect_form(value)


def is_manner(value):
    """Whether any object is a manner."""
    return has_manner_form(value)


def worth_at(effect, ahead, behind):
    """The most that is spent without a fill between, with so many coins spent ahead and behind."""
    check_effect(effect)
    check_count(ahead)
    check_count(behind)
    return worth(effect, ahead, behind)


def beats(effect, other):
    """Whether an effect is worth at most what the other one is, whatever is spent ahead and behind."""
    check_effect(effect)
    check_effect(other)
    return is_never_more(effect, other)


def parting_sides(effect, other):
    """Counts ahead and behind for which an effect is worth more than the other one, or None."""
    check_effect(effect)
    check_effect(other)
    return sides_apart(effect, other)


def are_parting_sides(effect, other, value):
    """Whether any object is a tuple of counts for which an effect is worth more than the other one."""
    check_effect(effect)
    check_effect(other)
    if not is_tuple_of(value, 2) or not is_count(value[0]) or not is_count(value[1]):
        return False
    return worth(effect, value[0], value[1]) > worth(other, value[0], value[1])


def rooms_of(manual):
    """The ascending list of a manual's rooms."""
    check_manual(manual)
    return all_rooms(manual)


def jobs_of(manual):
    """The ascending list of a manual's jobs."""
    check_manual(manual)
    return all_jobs(manual)


def manners_at(manual, room, job):
    """The ascending list of the manners in a room with a job."""
    check_manual(manual)
    check_room(manual, room)
    check_word(job)
    return [manner for manner in manual.manners() if manner[:2] == (room, job)]


def changed(manual, change):
    """The manual with a change."""
    check_manual(manual)
    if not has_change_form(change):
        raise InvalidChange(change)
    return _changed_by_all(manual, [change])


def changed_by(manual, changes):
    """The manual with a list of changes, one after the other."""
    check_manual(manual)
    if not has_changes_form(changes):
        raise InvalidChanges(changes)
    return _changed_by_all(manual, changes)


def _changed_by_all(manual, changes):
    parts = (manual.manners(), manual.beginnings(), manual.ends())
    for change in changes:
        parts = parts_changed(parts, change)
        if parts is None:
            raise InvalidChange(change)
    return Manual(parts[0], parts[1], parts[2])


def told_changes(elder, newer):
    """A list of the fewest changes that leads from one manual to the other."""
    check_both(elder, newer)
    return fewest_changes(elder, newer)


def are_changes(elder, newer, value):
    """Whether any object is a list of the fewest changes that leads from one manual to the other."""
    check_both(elder, newer)
    if not has_changes_form(value) or len(value) != len(fewest_changes(elder, newer)):
        return False
    try:
        return _changed_by_all(elder, value) == newer
    except InvalidChange:
        return False


def _over_rooms(manual, rooms):
    manners = [manner for manner in manual.manners() if manner[0] in rooms and manner[2] in rooms]
    beginnings = [room for room in manual.beginnings() if room in rooms]
    return Manual(manners, beginnings, [room for room in manual.ends() if room in rooms])


def struck(manual):
    """The manual without its dead rooms."""
    check_manual(manual)
    return _over_rooms(manual, living_rooms(manual))


def trimmed(manual):
    """The manual without its dead and its lost rooms."""
    check_manual(manual)
    return _over_rooms(manual, busy_rooms(manual))


def used_way(manual, manner):
    """A shortest row of manners from a beginning to an end in which a manner stands, or None."""
    check_manual(manual)
    check_manner(manual, manner)
    return shortest_used(manual, manner)


def is_used_way(manual, manner, value):
    """Whether any object is such a row as used_way returns."""
    check_manual(manual)
    check_manner(manual, manner)
    if not is_some_way(manual, value) or manner not in value:
        return False
    return len(value) == len(shortest_used(manual, manner))


def lean(manual):
    """The manual without the manners that another one beats that leads likewise."""
    check_manual(manual)
    manners = manual.manners()
    kept = [manner for manner in manners if not _is_beaten(manner, manners)]
    return Manual(kept, manual.beginnings(), manual.ends())


def _is_beaten(manner, manners):
    twins = [twin for twin in manners if twin[:3] == manner[:3] and twin != manner]
    return any([is_never_more(twin[3], manner[3]) for twin in twins])


def cover_of(elder, newer):
    """The greatest cover of two manuals."""
    check_both(elder, newer)
    return greatest_cover(elder, newer)


def is_cover(elder, newer, value):
    """Whether any object is a cover of two manuals."""
    check_both(elder, newer)
    return is_any_cover(elder, newer, value)


def is_covered(elder, newer):
    """Whether each beginning of the elder manual stands with one of the newer in the greatest cover."""
    check_both(elder, newer)
    return are_beginnings_covered(elder, newer)
