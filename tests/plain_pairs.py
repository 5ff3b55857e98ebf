"""Plain reckonings of sections 8 to 10, by the words of the points and without regard to time."""

import itertools

from tests.plain import plain_changed, plain_rooms, plain_state
from tests.plain_cards import (
    is_plain_card, is_plain_closed, is_plain_expression, plain_again, plain_behind, plain_card, plain_closed,
    plain_expression_card, plain_expressions, plain_jobs, plain_leaves, plain_rests, plain_rests_behind, plain_value)
from withinbooks.manuals import Manual


def pair_behind(one, other):
    return (plain_behind(one[0], other[0]), plain_behind(one[1], other[1]))


def pair_again(pair):
    return (plain_again(pair[0]), plain_again(pair[1]))


def pair_of(elder, newer, book):
    return (plain_card(elder, book), plain_card(newer, book))


def both_jobs(elder, newer):
    return sorted(set(plain_jobs(elder) + plain_jobs(newer)))


def plain_pairs(elder, newer):
    """The least pair table, by closing a list of pairs step by step."""
    jobs = [pair_of(elder, newer, [job]) for job in both_jobs(elder, newer)]
    return plain_closed(pair_of(elder, newer, []), jobs, pair_behind, pair_again)


def is_plain_pair_table(elder, newer, value):
    if type(value) is not list or any(type(pair) is not tuple or len(pair) != 2 for pair in value):
        return False
    sizes = [len(plain_rooms(elder)), len(plain_rooms(newer))]
    if not all(is_plain_card(card, size) for pair in value for card, size in zip(pair, sizes)):
        return False
    jobs = [pair_of(elder, newer, [job]) for job in both_jobs(elder, newer)]
    return is_plain_closed(value, pair_of(elder, newer, []), jobs, pair_behind, pair_again)


def is_plain_bad(elder, newer, pair):
    return (plain_value(elder, pair[0]) in ("full", "free", "some")
            and plain_value(newer, pair[1]) in ("many", "never"))


def is_plain_within(elder, newer):
    return not any(is_plain_bad(elder, newer, pair) for pair in plain_pairs(elder, newer))


def is_plain_escape(elder, newer, value):
    if not is_plain_expression(value):
        return False
    return is_plain_bad(elder, newer, (plain_expression_card(elder, value), plain_expression_card(newer, value)))


def small_expressions(jobs, size):
    """All expressions with at most so many jobs; none needs more agains one within the other than it has jobs."""
    return [one for many in range(size + 1) for one in plain_expressions(jobs, many, many)]


class PlainSteps:
    """Steps, by the words of point 59."""

    def __init__(self, elder, newer, purse, listed):
        self.elder, self.newer, self.listed = elder, newer, listed
        self.jobs = {job: tuple(listed.index(plain_rests_behind(elder, purse, left, job)) for left in listed)
                     for job in plain_jobs(elder)}
        assert listed[0] == plain_rests(elder, purse, [])

    def first(self):
        return (tuple(range(len(self.listed))), plain_card(self.newer, []))

    def job(self, job):
        return (self.jobs[job], plain_card(self.newer, [job]))

    def behind(self, one, other):
        return (tuple(other[0][at] for at in one[0]), plain_behind(one[1], other[1]))

    def again(self, one):
        return (one[0], plain_again(one[1]))

    def table(self):
        """The least step table."""
        return plain_closed(self.first(), [self.job(job) for job in self.jobs], self.behind, self.again)

    def of(self, expression):
        """The step and the card of an expression, None if the body of an again is not steady."""
        if type(expression) is str:
            return self.job(expression)
        if expression[0] == "again":
            body = self.of(expression[1])
            return self.again(body) if body is not None and self.behind(body, body) == body else None
        made = self.first()
        for part in expression[1]:
            other = self.of(part)
            if other is None:
                return None
            made = self.behind(made, other)
        return made

    def outruns(self, value):
        if not is_plain_expression(value) or not set(plain_leaves(value)) <= set(self.jobs):
            return False
        made = self.of(value)
        return made is not None and self.is_goal(made)

    def is_goal(self, made):
        left = dict(zip(plain_rooms(self.elder), self.listed[made[0][0]]))
        served = any(type(left[room]) is int for room in self.elder.ends())
        return served and plain_value(self.newer, made[1]) in ("many", "never")


def with_effects(manual, lot, effect_for):
    manners = [manner[:3] + (effect_for(manner[3]),) if manner in lot else manner for manner in manual.manners()]
    return Manual(list(set(manners)), manual.beginnings(), manual.ends())


def plain_free(effect):
    return ("coins", 0)


def plain_filling(effect):
    return ("fill", effect[1], 0)


def plain_emptied(effect):
    return ("coins", min(3, effect[1] + effect[2]))


def plain_spending(manual):
    return [manner for manner in manual.manners() if manner[3] in [("coins", 1), ("coins", 2), ("coins", 3)]]


def plain_filling_manners(manual):
    return [manner for manner in manual.manners() if manner[3][0] == "fill"]


def lots_of(things):
    """All lots of an ascending list of things, as tuples."""
    return [lot for many in range(len(things) + 1) for lot in itertools.combinations(things, many)]


def least_of(lots):
    """The lots, as ascending lists, within which no other one of them lies."""
    return sorted(list(lot) for lot in lots if not any(set(other) < set(lot) for other in lots))


def greatest_of(lots):
    return sorted(list(lot) for lot in lots if not any(set(other) > set(lot) for other in lots))


def over(manual, lot):
    return Manual([manner for manner in manual.manners() if manner[1] in lot], manual.beginnings(), manual.ends())


def plain_edition(elder, changes, lot):
    state = plain_changed(plain_state(elder), [changes[at] for at in lot])
    return None if state is None else Manual(*[list(part) for part in state])
