"""Steps of books at a purse, beside cards, of arguments that have been checked.

The step of a book tells for each of the rests that books leave of the purse in the elder
manual to which of them it leads.
"""

from withinbooks.ledgers import CardLedger
from withinbooks.marks import MANY
from withinbooks.paths import all_jobs
from withinbooks.rest_rows import all_rest_rows


class StepLedger:
    """Tuples of steps in the elder manual and cards of the newer one; their numbers are tuples of two numbers.

    A tuple has an again only if it is steady.
    """

    def __init__(self, elder, newer, purse):
        self._rests = all_rest_rows(elder, purse)
        self._newer = CardLedger(newer)
        self._steps = []
        self._numbers = {}
        self._made = {}
        places = list(range(len(self._rests.rows)))
        self._empty = tuple(places)
        self._jobs = {job: tuple([self._rests.behind(at, job) for at in places]) for job in all_jobs(elder)}

    def enter(self, step):
        """The number of a step."""
        if step not in self._numbers:
            self._numbers[step] = len(self._steps)
            self._steps.append(step)
        return self._numbers[step]

    def step_behind(self, one, other):
        """The number of the step that two steps make, one behind the other."""
        if (one, other) not in self._made:
            behind = self._steps[other]
            self._made[(one, other)] = self.enter(tuple([behind[at] for at in self._steps[one]]))
        return self._made[(one, other)]

    def first(self):
        """The number of the empty book."""
        return (self.enter(self._empty), self._newer.first())

    def job(self, job):
        """The number of a job of the elder manual."""
        return (self.enter(self._jobs[job]), self._newer.job(job))

    def behind(self, one, other):
        """The number of what two make, one behind the other."""
        return (self.step_behind(one[0], other[0]), self._newer.behind(one[1], other[1]))

    def again(self, one):
        """The number of the again of a steady one, None for others."""
        if self.behind(one, one) != one:
            return None
        return (one[0], self._newer.again(one[1]))

    def is_goal(self, one):
        """Whether the elder manual serves with the purse what grows in the newer one, or can never be done."""
        return self._rests.is_served(self._steps[one[0]][0]) and self._newer.mark_of(one[1]) >= MANY
