"""Ledgers of cards and of pairs of cards, of arguments that have been checked.

A ledger gives each card a number, and finds only once what two cards, or the again of
one, make. All ledgers have first, job, behind and again: the number of the empty row, of
a job, of two numbers one behind the other, and of an again.
"""

from withinbooks.marks import MANY, again_card, card_behind, card_value, coded_card, empty_card, job_card
from withinbooks.marks import power_of, rooms_at, told_card
from withinbooks.paths import all_rooms


class CardLedger:
    """The cards of a manual by their numbers."""

    def __init__(self, manual):
        self._manual = manual
        self._starts = rooms_at(manual, manual.beginnings())
        self._goals = rooms_at(manual, manual.ends())
        self._empty = empty_card(len(all_rooms(manual)))
        self._cards = []
        self._numbers = {}
        self._jobs = {}
        self._made = {}
        self._repeated = {}

    def enter(self, card):
        """The number of a coded card."""
        if card not in self._numbers:
            self._numbers[card] = len(self._cards)
            self._cards.append(card)
        return self._numbers[card]

    def enter_told(self, card):
        """The number of a card."""
        return self.enter(coded_card(card))

    def told(self, number):
        """The card with a number."""
        return told_card(self._cards[number])

    def first(self):
        """The number of the empty book's card."""
        return self.enter(self._empty)

    def job(self, job):
        """The number of the card of a job, perhaps one that the manual lacks."""
        if job not in self._jobs:
            self._jobs[job] = self.enter(job_card(self._manual, job))
        return self._jobs[job]

    def behind(self, one, other):
        """The number of the card that two cards make, put behind one another."""
        if (one, other) not in self._made:
            self._made[(one, other)] = self.enter(card_behind(self._cards[one], self._cards[other]))
        return self._made[(one, other)]

    def again(self, number):
        """The number of the again card."""
        if number not in self._repeated:
            self._repeated[number] = self.enter(again_card(self._cards[number]))
        return self._repeated[number]

    def power(self, number):
        """The least number of copies of a card that put behind one another are steady."""
        return power_of(self._cards[number])

    def is_steady(self, number):
        """Whether a card is steady."""
        return self.behind(number, number) == number

    def mark_of(self, number):
        """The number of the mark that is the value of a card."""
        return card_value(self._cards[number], self._starts, self._goals)


class PairLedger:
    """The pairs of cards of two manuals: as numbers of pairs tuples of the numbers of both cards."""

    def __init__(self, elder, newer):
        self._elder = CardLedger(elder)
        self._newer = CardLedger(newer)

    def enter_told(self, pair):
        """The number of a pair."""
        return (self._elder.enter_told(pair[0]), self._newer.enter_told(pair[1]))

    def told(self, pair):
        """The pair with a number."""
        return (self._elder.told(pair[0]), self._newer.told(pair[1]))

    def first(self):
        """The number of the pair of the empty book's cards."""
        return (self._elder.first(), self._newer.first())

    def job(self, job):
        """The number of the pair of a job's cards."""
        return (self._elder.job(job), self._newer.job(job))

    def behind(self, one, other):
        """The number of what two pairs make, put behind one another card by card."""
        return (self._elder.behind(one[0], other[0]), self._newer.behind(one[1], other[1]))

    def again(self, pair):
        """The number of the pair of the again cards."""
        return (self._elder.again(pair[0]), self._newer.again(pair[1]))

    def is_steady(self, pair):
        """Whether both cards of a pair are steady."""
        return self._elder.is_steady(pair[0]) and self._newer.is_steady(pair[1])

    def is_bad(self, pair):
        """Whether the elder manual does in bounds what the newer one does not."""
        return self._elder.mark_of(pair[0]) < MANY and self._newer.mark_of(pair[1]) >= MANY

    def turned_bad(self, pair):
        """Whether a pair is bad with the two manuals exchanged."""
        return self._newer.mark_of(pair[1]) < MANY and self._elder.mark_of(pair[0]) >= MANY
