"""Expressions with the fewest jobs, of arguments that have been checked.

Every expression is a row of generators: of jobs, and of agains. A generator is a tuple of
how many jobs it has, its number in a ledger, its job, or place (None for an again), and
the number of its body (None for a job or a place).
"""

from heapq import heappop, heappush

from withinbooks.expressions import row_of


class Spread:
    """From the empty row on, the numbers of a ledger in the order of the fewest jobs that make them."""

    def __init__(self, ledger):
        self._ledger = ledger
        self._generators = []
        self._steps = {}
        self._queue = [(0, ledger.first())]
        self.offered = {ledger.first(): 0}
        self.costs = {}

    def offer(self, ahead, generator):
        """Look at a generator behind a number that was taken."""
        number = self._ledger.behind(ahead, generator[1])
        cost = self.costs[ahead] + generator[0]
        if number not in self.offered or cost < self.offered[number]:
            self.offered[number] = cost
            self._steps[number] = (ahead, generator)
            heappush(self._queue, (cost, number))

    def take(self):
        """The next number, None if there is none: all generators are looked at behind it."""
        while self._queue:
            cost, number = heappop(self._queue)
            if number not in self.costs:
                self.costs[number] = cost
                for generator in self._generators:
                    self.offer(number, generator)
                return number
        return None

    def include(self, generator):
        """Add a generator: it is looked at behind all numbers that were taken, and behind the next ones."""
        self._generators.append(generator)
        for number in list(self.costs):
            self.offer(number, generator)

    def generators_to(self, number):
        """The row of generators, with the fewest jobs, that makes a number."""
        row = []
        left = number
        while left in self._steps:
            left, generator = self._steps[left]
            row.append(generator)
        return row[::-1]


def job_generators(ledger, jobs):
    """The generators of some jobs."""
    return [(1, ledger.job(job), job, None) for job in jobs]


def spread_over(ledger, generators):
    """The spread of all that rows of some generators make."""
    spread = Spread(ledger)
    for generator in generators:
        spread.include(generator)
    while spread.take() is not None:
        pass
    return spread


def again_generators(ledger, costs):
    """The generators of agains of the numbers that have costs, the cheapest one for each again.

    Agains that cost no less than a row that makes the same are left out.
    """
    found = {}
    for body, cost in costs.items():
        repeated = ledger.again(body)
        if repeated in costs and costs[repeated] <= cost:
            continue
        if repeated not in found or cost < found[repeated][0]:
            found[repeated] = (cost, repeated, None, body)
    return list(found.values())


def levels_of(ledger, jobs, many):
    """A spread for each nesting from 0 on, up to the first one with so many numbers."""
    generators = job_generators(ledger, jobs)
    levels = [spread_over(ledger, generators)]
    while len(levels[-1].costs) < many:
        generators = generators + again_generators(ledger, levels[-1].costs)
        levels.append(spread_over(ledger, generators))
    return levels


def expression_in(spreads, number):
    """The expression with the fewest jobs that has a number in the last one of some spreads.

    What the bodies of its agains are made of is told by the spreads ahead; one spread
    alone tells it itself.
    """
    parts = []
    bodies = spreads[:-1] or spreads
    for generator in spreads[-1].generators_to(number):
        if generator[2] is not None:
            parts.append(generator[2])
        else:
            parts.append(("again", expression_in(bodies, generator[3])))
    return row_of(parts)


def first_level(levels, numbers):
    """The least nesting with which one of some numbers is made, None if none is."""
    for nesting, level in enumerate(levels):
        if any([number in level.costs for number in numbers]):
            return nesting
    return None


def cheapest_in(costs, numbers):
    """The one of some numbers that costs least."""
    return min([(costs[number], number) for number in numbers if number in costs])[1]


def spread_to(ledger, generators, goals):
    """A spread over rows and agains of some generators, up to the first one of some numbers, and this number.

    The number is None if the spread comes to none of them.
    """
    spread = Spread(ledger)
    for generator in generators:
        spread.include(generator)
    repeats = {}
    number = spread.take()
    while number is not None and number not in goals:
        repeated = ledger.again(number)
        if repeated is not None and repeated not in spread.costs and repeated not in repeats:
            repeats[repeated] = True
            spread.include((spread.costs[number], repeated, None, number))
        number = spread.take()
    return (spread, number)


def cheapest_to(ledger, jobs, goals):
    """An expression of some jobs, with as few as can be, that has one of some numbers, None if none has."""
    return cheapest_over(ledger, job_generators(ledger, jobs), goals)


def cheapest_over(ledger, generators, goals):
    """An expression of some generators, with as few jobs as can be, that has one of some numbers, or None."""
    spread, number = spread_to(ledger, generators, goals)
    if number is None:
        return None
    return expression_in([spread], number)
