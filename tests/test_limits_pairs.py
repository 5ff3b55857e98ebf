"""Point 3 for ceilings and sections 9 and 10: at its limits every call ends soon."""

import unittest

from tests.bounded_manuals import (
    changes_with_200_pairs, changes_with_201_pairs, dear_pair, long_walk_pair, pair_with_200_freed_pairs,
    pair_with_200_made_pairs, pair_with_200_pairs, pair_with_200_steps, pair_with_201_pairs, pair_with_201_steps)
from tests.drawn import widest_manual
from tests.soon import SoonTest
from withinbooks import blame, bounds, ceilings, within
from withinbooks.agains import kind_of
from withinbooks.books import need_of
from withinbooks.errors import Refused, TooMany


def widest_pairs():
    manuals = [widest_manual(seed, 2, 3, 8, fills) for seed, fills in enumerate([0, 0.1, 0.2, 0.3, 0.3, 0.5, 0.8])]
    made = list(zip(manuals, manuals[1:] + manuals[:1])) + [(manuals[3], manuals[3])]
    made += [pair_with_200_pairs(), pair_with_201_pairs(), pair_with_200_steps(), pair_with_201_steps(), dear_pair(1)]
    return made + [pair_with_200_made_pairs(), pair_with_200_freed_pairs(), long_walk_pair(), long_walk_pair()[::-1]]


class PairLimitsTest(SoonTest):
    def soon_or_many(self, function, *arguments):
        """What a call returns, None if it is refused, or if there are too many of something."""
        try:
            return self.soon(function, *arguments)
        except (Refused, TooMany):
            return None

    def test_ceilings(self):
        twice = ("again", ("row", ["x", ("again", ("row", ["y", "z", "y"])), "z", "x"]))
        chains = ("row", [("again", ("again", job)) for job in ["x", "y", "z", "z", "y", "x"]])
        flat = ("again", ("row", ["x", "y", "z", "z", "y", "x"]))
        inner = ("again", ("row", [("again", ("row", ["x", "y"])), ("again", ("row", ["y", "z"])), ("again", "z"), "x"]))
        manuals = [widest_manual(seed, 3, 3, 9, fills) for seed, fills in enumerate([0, 0.1, 0.2, 0.3, 0.3, 0.5, 0.8])]
        for manual in manuals + [manual for pair in widest_pairs() for manual in pair]:
            for expression in [twice, chains, flat, inner]:
                top, book = self.soon(ceilings.ceiling, manual, expression), self.soon(ceilings.top_book, manual, expression)
                self.assertEqual(top is None, kind_of(manual, expression) == "grows")
                self.assertIs(self.soon(ceilings.is_top_book, manual, expression, book), book is not None)
                for purse in [0, 5, 12]:
                    book = self.soon(ceilings.book_above, manual, expression, purse)
                    done = self.soon(ceilings.is_book_above, manual, expression, purse, book)
                    self.assertIs(done, book is not None)
                    if book is not None:
                        self.assertTrue(self.soon(ceilings.is_book_of, manual, expression, book))
                self.soon(ceilings.is_book_of, manual, expression, ["x", "y", "z", "z"] * 10)

    def test_within(self):
        for elder, newer in widest_pairs():
            table = self.soon_or_many(within.least_pairs, elder, newer)
            if table is not None:
                self.assertTrue(self.soon(within.is_pair_table, elder, newer, table))
                self.assertFalse(self.soon(within.is_pair_table, elder, newer, table[:-1]))
                self.assertEqual(self.soon(within.bad_pairs, elder, newer) == [], self.soon(within.is_within, elder, newer))
                self.soon(within.are_alike, elder, newer)
            found = self.soon_or_many(within.escape, elder, newer)
            self.soon_or_many(within.escape_size, elder, newer)
            self.assertIs(self.soon(within.is_escape, elder, newer, found), found is not None)
            self.soon(within.freed, elder)
            self.soon_or_many(within.within_along, [elder, newer, elder, newer, newer])

    def test_bounds(self):
        for elder, newer in widest_pairs():
            for purse in [0, 3, 12]:
                bound = self.soon(bounds.bound_at, elder, newer, purse)
                book = self.soon(bounds.hardest_at, elder, newer, purse)
                self.assertIs(self.soon(bounds.is_hardest_at, elder, newer, purse, book), book is not None)
                self.assertTrue(book is None or need_of(newer, book) == bound)
                for other in [0, 12, 40]:
                    book = self.soon(bounds.unserved_book, elder, newer, purse, other)
                    self.assertEqual(book is None, bound is not None and bound <= other)
                    self.assertIs(self.soon(bounds.is_unserved_book, elder, newer, purse, other, book), book is not None)

    def test_outruns_and_greater_needs(self):
        for elder, newer in widest_pairs():
            for purse in [0, 1, 3]:
                found = self.soon_or_many(bounds.outrun, elder, newer, purse)
                self.assertIs(self.soon(bounds.is_outrun, elder, newer, purse, found), found is not None)
            never, book = self.soon_or_many(bounds.never_more, elder, newer), self.soon_or_many(bounds.more_book, elder, newer)
            if never is not None:
                self.assertIs(never, book is None)
                self.assertIs(self.soon(bounds.is_more_book, elder, newer, book), not never)

    def test_blame(self):
        for elder, newer in widest_pairs():
            lots = self.soon_or_many(blame.blamed_jobs, elder, newer)
            self.soon_or_many(blame.safe_jobs, elder, newer)
            if lots is not None:
                found = self.soon(blame.blame_escapes, elder, newer)
                self.assertTrue(self.soon(blame.are_blame_escapes, elder, newer, found))
            for function in [blame.cures, blame.fill_cures, blame.spare_fills, blame.needed_fills]:
                self.soon_or_many(function, elder, newer)
            spending = [manner for manner in newer.manners() if manner[3][0] == "coins" and manner[3][1] > 0]
            for function in [blame.made_free, blame.made_filling]:
                self.soon(function, newer, spending)
            self.soon(blame.emptied, newer, [manner for manner in newer.manners() if manner[3][0] == "fill"])
            self.soon(blame.over_jobs, newer, ["x", "z"])

    def test_changes(self):
        for elder, changes in [changes_with_200_pairs(), changes_with_201_pairs()]:
            self.soon_or_many(blame.straying_lots, elder, changes)
            self.soon_or_many(blame.staying_lots, elder, changes)
            self.soon(blame.lot_edition, elder, changes, [0, 1, 2, 3])


if __name__ == "__main__":
    unittest.main()
