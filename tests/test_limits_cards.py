"""Point 3 for sections 6 to 8: at its limits every call ends soon."""

import random
import unittest

from tests.anything import same
from tests.bounded_manuals import manual_with_120_cards, manual_with_121_cards, manual_with_purse
from tests.drawn import JOBS, widest_manual
from tests.soon import SoonTest
from withinbooks import agains, cards, rests, tables
from withinbooks.errors import TooMany
from withinbooks.manuals import Manual, jobs_of, rooms_of


def counters(rooms, coins):
    """For each room a job that spends there alone: very many rests are left by some books."""
    names, jobs = ["a", "b", "c", "d"][:rooms], JOBS[:rooms]
    manners = [(room, job, room, ("coins", coins if at == own else 0))
               for at, room in enumerate(names) for own, job in enumerate(jobs)]
    return Manual(manners, names, names)


def widest_expressions():
    """Expressions with a nesting of 4 and 12 jobs."""
    inner = ("again", ("row", ["z", ("again", ("row", ["x", "y"]))] * 2))
    made = [("again", ("row", ["x", "x", ("again", ("row", ["y", inner, "z", "z"])), "y"]))]
    body = ("row", ["x", "y", "z"])
    for _ in range(3):
        body = ("row", [("again", body), "x", "y", "z"])
    made.append(("again", body))
    return made + [("row", [("again", ("again", ("again", ("again", job)))) for job in ["x", "y", "z"] * 4])]


class CardLimitsTest(SoonTest):
    def widest(self):
        made = [widest_manual(seed, 3, 3, 9, fills) for seed, fills in enumerate([0.1, 0.2, 0.3, 0.3, 0.5, 0.8])]
        made += [manual_with_120_cards(), manual_with_121_cards(), manual_with_purse(40), manual_with_purse(42)]
        return made + [counters(3, 1), counters(3, 3), counters(2, 1)]

    def soon_or_many(self, function, *arguments):
        """What a call returns, None if there are too many cards or coins."""
        try:
            return self.soon(function, *arguments)
        except TooMany:
            return None

    def test_cards(self):
        draw = random.Random(20)
        for manual in self.widest() + [widest_manual(9), widest_manual(10, 6, 4, 24)]:
            book = [draw.choice(jobs_of(manual)) for _ in range(40)]
            card = self.soon(cards.card_of, manual, book)
            self.assertTrue(self.soon(cards.is_card, manual, card))
            self.assertTrue(same(self.soon(cards.cards_behind, manual, card, card), cards.card_of(manual, book * 2)))
            self.soon(cards.value_of, manual, card)
            self.soon(agains.again, manual, card)
            self.assertEqual(self.soon(agains.is_steady, manual, card), self.soon(agains.steady_power, manual, card) == 1)
            self.soon(cards.card_of, manual, book * 10)
            for room in rooms_of(manual):
                for other in rooms_of(manual):
                    part = self.soon(cards.best_part, manual, book * 10, room, other)
                    done = self.soon(cards.is_best_part, manual, book * 10, room, other, part)
                    self.assertEqual(done, part is not None)

    def test_expressions(self):
        deep = "x"
        for at in range(30):
            deep = ("again", deep) if at % 3 == 2 else ("row", [deep, "y"])
        for manual in self.widest():
            for expression in widest_expressions() + [deep]:
                self.assertTrue(self.soon(agains.is_expression, expression))
                self.soon(agains.jobs_in, expression)
                self.soon(agains.nesting, expression)
                self.soon(agains.expression_card, manual, expression)
                kind = self.soon(agains.kind_of, manual, expression)
                size = self.soon(agains.written_size, [manual] * 3, expression, 10 ** 29)
                self.assertGreater(size, 10 ** 29)
                self.soon_or_many(agains.written, [manual], expression, 0)
                shown = self.soon_or_many(agains.shows_growth, manual, ("row", ["x", "y"] * 200), 0)
                self.assertIsNotNone(shown)
                shown = self.soon_or_many(agains.shows_growth, manual, expression, 0)
                self.assertTrue(shown is None or shown[1] or kind != "grows")

    def test_tables(self):
        for manual in self.widest():
            table = self.soon_or_many(tables.least_table, manual)
            expression = self.soon_or_many(tables.growing, manual)
            self.soon_or_many(tables.growth_nesting, manual)
            self.soon_or_many(tables.table_growth, manual)
            self.soon_or_many(tables.one_purse, manual)
            self.soon_or_many(tables.calm_table, manual)
            if table is not None:
                self.assertTrue(self.soon(tables.is_table, manual, table))
                self.assertFalse(self.soon(tables.is_table, manual, table[:-1]))
                self.assertEqual(self.soon(tables.is_calm_table, manual, table), expression is None)
                self.assertEqual(self.soon(tables.is_growing, manual, expression), expression is not None)
                for card in table[::9]:
                    found = self.soon(tables.expression_for, manual, card)
                    self.assertTrue(self.soon(tables.is_expression_for, manual, card, found))

    def test_rests(self):
        for manual in self.widest() + [widest_manual(11), counters(4, 1)]:
            for purse in [0, 5, 12]:
                listed = self.soon(rests.rest_list, manual, purse)
                found = self.soon(rests.rest_table, manual, purse)
                self.assertEqual(self.soon(rests.is_rest_table, manual, purse, listed), found is not None)
                book = self.soon(rests.harder_book, manual, purse)
                self.assertEqual(self.soon(rests.is_harder_book, manual, purse, book), found is None)
                self.soon(rests.rests_of, manual, purse, ["x", "y"] * 200)
                self.soon(rests.rests_behind, manual, purse, listed[-1], "x")

    def test_least_purses(self):
        for manual in self.widest():
            purse = self.soon_or_many(rests.least_purse, manual)
            book = self.soon_or_many(rests.hardest_book, manual)
            if book is not None:
                self.assertTrue(self.soon(rests.is_hardest_book, manual, book))
                self.assertFalse(self.soon(rests.is_harder_book, manual, purse, book))
            self.assertIsNot(self.soon_or_many(rests.is_hardest_book, manual, None), True)


if __name__ == "__main__":
    unittest.main()
