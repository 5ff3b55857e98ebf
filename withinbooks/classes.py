"""Classes of cards that may stand for one another, of arguments that have been checked."""

from withinbooks.cheapest import cheapest_over, job_generators
from withinbooks.ledgers import CardLedger
from withinbooks.marks import MANY, NEVER
from withinbooks.paths import all_jobs
from withinbooks.table_bounds import bounded_cards

BOUNDED = 2


def kind_number(ledger, number):
    """What kind a card's value tells: MANY if it grows, NEVER, or BOUNDED."""
    mark = ledger.mark_of(number)
    return mark if mark in (MANY, NEVER) else BOUNDED


def generators_among(ledger, jobs, numbers):
    """The numbers of the cards of some jobs, and of the again cards of the steady ones of some cards."""
    made = {ledger.job(job): True for job in jobs}
    for number in numbers:
        if ledger.is_steady(number):
            made[ledger.again(number)] = True
    return list(made)


def made_of(ledger, generators, number):
    """What a card makes behind each generator, ahead of each one, and as an again."""
    behind = [ledger.behind(other, number) for other in generators]
    return behind + [ledger.behind(number, other) for other in generators] + [ledger.again(number)]


def told_apart(keys):
    """From each number to that of its class: those with equal keys are in one class."""
    places = {}
    found = {}
    for number, key in keys.items():
        places.setdefault(key, len(places))
        found[number] = places[key]
    return found


def fewest_classes(ledger, jobs, numbers):
    """From the number of each card of a least table to that of its class, with the fewest classes."""
    generators = generators_among(ledger, jobs, numbers)
    made = {number: made_of(ledger, generators, number) for number in numbers}
    classes = told_apart({number: kind_number(ledger, number) for number in numbers})
    many = 0
    while many < len(set(list(classes.values()))):
        many = len(set(list(classes.values())))
        keys = {}
        for number in numbers:
            keys[number] = (classes[number], tuple([classes[other] for other in made[number]]))
        classes = told_apart(keys)
    return classes


class Classes:
    """The classes of the cards of a manual's least table; TooMany if it has more than 120 cards.

    It is a ledger of tuples of two classes: of what two expressions come to that differ only
    in what stands in their places.
    """

    def __init__(self, manual):
        self.ledger = CardLedger(manual)
        self.jobs = all_jobs(manual)
        numbers = bounded_cards(self.ledger, manual)
        self.class_of = fewest_classes(self.ledger, self.jobs, numbers)
        self._cards = {place: number for number, place in self.class_of.items()}

    def cards_by_class(self):
        """The ascending list of the ascending lists of the cards of each class."""
        lists = {place: [] for place in self._cards}
        for number, place in self.class_of.items():
            lists[place].append(self.ledger.told(number))
        return sorted([sorted(cards) for cards in lists.values()])

    def first(self):
        """The number of the empty row."""
        place = self.class_of[self.ledger.first()]
        return (place, place)

    def job(self, job):
        """The number of a job of the manual."""
        place = self.class_of[self.ledger.job(job)]
        return (place, place)

    def behind(self, one, other):
        """The number of what two make, one behind the other."""
        return (self._behind(one[0], other[0]), self._behind(one[1], other[1]))

    def _behind(self, place, other):
        return self.class_of[self.ledger.behind(self._cards[place], self._cards[other])]

    def again(self, one):
        """The number of an again."""
        return (self._again(one[0]), self._again(one[1]))

    def _again(self, place):
        return self.class_of[self.ledger.again(self._cards[place])]

    def parted(self):
        """All numbers of two classes of unlike kinds, as the keys of a dictionary."""
        kinds = {place: kind_number(self.ledger, number) for place, number in self._cards.items()}
        return {(one, other): True for one in kinds for other in kinds if kinds[one] != kinds[other]}


def parting_expression(classes, one, other):
    """An expression with places, and as few jobs as can be, in which two classes are told apart.

    It is None if they are one class.
    """
    if one == other:
        return None
    place = (0, (one, other), ("place",), None)
    generators = [place] + job_generators(classes, classes.jobs)
    return cheapest_over(classes, generators, classes.parted())
