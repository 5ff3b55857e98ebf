"""Books of an elder manual mended for a newer one, of arguments that have been checked."""

from withinbooks.crowds import crowd_behind, first_crowd, goals_of, has_end
from withinbooks.menders import Mender, nothing_to_mend
from withinbooks.paths import all_jobs, all_rooms
from withinbooks.shapes import MOST_COINS
from withinbooks.walks import shortest_book
from withinbooks.words import words_for


def fewest_pairs(pairs):
    """Those of some pairs of numbers that no other one beats."""
    return [pair for pair in pairs if not any([is_beaten(pair, other) for other in pairs])]


def is_beaten(pair, other):
    """Whether another pair of numbers is no greater in both, and less in one."""
    return pair != other and other[0] <= pair[0] and other[1] <= pair[1]


def job_effects(mender, newer, job, stops):
    """From each two rooms of the newer manual to the effects of mending a job between them."""
    found = {}
    rooms = all_rooms(newer)
    doing = [(manner[0], manner[2]) for manner in newer.manners() if manner[1] == job]
    puts = {room: mender.fewest_from(room, []) for room in rooms}
    for start in rooms:
        costs = {} if job in stops else mender.fewest_from(start, [job])
        for goal in rooms:
            effects = [("coins", costs[goal])] if goal in costs else []
            if job in stops:
                pairs = [(puts[start][room], puts[other][goal]) for room, other in doing
                         if room in puts[start] and goal in puts[other]]
                effects = [("fill", ahead, behind) for ahead, behind in fewest_pairs(pairs)]
            found[(start, goal)] = effects
    return found


def held_effect(effect):
    """The effect with at most as many coins as effects have: manuals within the limits need no more."""
    return effect[:1] + tuple([min(coins, MOST_COINS) for coins in effect[1:]])


def mending_parts(elder, newer, stops):
    """The manners, beginnings and ends of the manual that needs what mendings need."""
    rooms, others = all_rooms(elder), all_rooms(newer)
    words = words_for([(room, other) for room in rooms for other in others])
    mender = Mender(newer, stops)
    effects = {job: job_effects(mender, newer, job, stops) for job in all_jobs(elder)}
    made = {}
    for room, job, goal, _ in elder.manners():
        for (start, end), held in effects[job].items():
            for effect in held:
                made[(words[(room, start)], job, words[(goal, end)], held_effect(effect))] = True
    beginnings = [words[(room, other)] for room in elder.beginnings() for other in newer.beginnings()]
    ends = [words[(room, other)] for room in elder.ends() for other in newer.ends()]
    return (list(made), beginnings, ends)


class UnmendableWalk:
    """Books that the elder manual does and that have no mending for the newer one.

    A spot is a tuple of the crowd of the elder manual, that of the manual of mendings, and of
    whether there is any job: of the empty book that manual does not tell what it needs.
    """

    def __init__(self, elder, newer, stops, mending_manual):
        self._elder = elder
        self._mending = mending_manual
        self._goals = goals_of(elder)
        self._mending_goals = goals_of(mending_manual)
        self._is_empty_mended = nothing_to_mend(elder, newer, stops) is not None

    def first(self):
        """The spot of the empty book."""
        return (first_crowd(self._elder), first_crowd(self._mending), False)

    def behind(self, spot, job):
        """The spot behind a job, None if no book with it is done by the elder manual."""
        crowd = crowd_behind(self._goals, spot[0], job)
        if not crowd:
            return None
        return (crowd, crowd_behind(self._mending_goals, spot[1], job), True)

    def is_goal(self, spot):
        """Whether a book that leads to a spot is done by the elder manual and has no mending."""
        if not has_end(self._elder, spot[0]):
            return False
        if not spot[2]:
            return not self._is_empty_mended
        return not has_end(self._mending, spot[1])


def shortest_unmendable(elder, newer, stops, mending_manual):
    """A shortest book that the elder manual does and that has no mending for the newer one, or None."""
    walk = UnmendableWalk(elder, newer, stops, mending_manual)
    return shortest_book(walk, all_jobs(elder))
