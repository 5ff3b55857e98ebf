"""Point 3 for sections 11 to 14: at its limits every call ends soon."""

import itertools
import unittest

from tests.bounded_manuals import manual_with_120_cards, manual_with_121_cards, pair_with_200_pairs, pair_with_201_pairs
from tests.drawn import widest_manual
from tests.plain_clerks import plain_rule_choices
from tests.soon import SoonTest
from withinbooks import clerks, cutting, exchange, made
from withinbooks.errors import TooMany
from withinbooks.manuals import Manual, jobs_of, rooms_of

FILLS = [0, 0.1, 0.2, 0.3, 0.3, 0.5, 0.8]


def widest(rooms, jobs, manners):
    """Manuals with so many of each, with all rooms as beginnings and ends, or with few of them."""
    manuals = [widest_manual(seed, rooms, jobs, manners, fills) for seed, fills in enumerate(FILLS)]
    return manuals + [Manual(manual.manners(), ["a"], ["b"]) for manual in manuals[:4]]


class LimitsTest(SoonTest):
    def soon_or_many(self, function, *arguments):
        """What a call returns, None if there are too many of something."""
        try:
            return self.soon(function, *arguments)
        except TooMany:
            return None

    def test_classes(self):
        for manual in widest(3, 3, 9) + [manual_with_120_cards(), manual_with_121_cards()]:
            classes = self.soon_or_many(exchange.class_table, manual)
            if classes is not None:
                self.assertTrue(self.soon(exchange.is_class_table, manual, classes))
                self.assertFalse(self.soon(exchange.is_class_table, manual, classes[1:]))
                self.soon(exchange.is_class_table, manual, [[card] for cards in classes for card in cards])
            jobs = jobs_of(manual)
            deep = ("again", ("row", [jobs[0], ("again", ("row", [jobs[1], ("again", ("again", jobs[-1]))]))]))
            self.soon_or_many(exchange.are_even, manual, deep, ("row", [deep, deep, deep]))

    def test_frames(self):
        for manual in widest(2, 3, 8):
            jobs = jobs_of(manual)
            expressions = [jobs[0], ("again", jobs[-1]), ("again", ("row", jobs * 4)), ("row", [])]
            for one, other in itertools.combinations(expressions, 2):
                found = self.soon_or_many(exchange.parting_frame, manual, one, other)
                if found is not None:
                    self.assertTrue(self.soon(exchange.is_parting_frame, manual, one, other, found))
                frame = ("row", [("place",)] * 4 + jobs * 4)
                for _ in range(4):
                    frame = ("again", frame)
                self.soon_or_many(exchange.is_parting_frame, manual, one, other, frame)
                self.soon(exchange.put_in, frame, other)

    def test_books(self):
        for manual in widest(4, 4, 16):
            rooms = rooms_of(manual)
            for one, other in [(["x", "y", "z", "zz"] * 2, ["zz", "x", "y", "z"] * 2), (["x"] * 8, ["x"] * 8),
                               (["x"] * 7, ["x"] * 8), (["zz", "y"] * 4, ["y", "zz"] * 4)]:
                found = self.soon(exchange.parting_spendings, manual, one, other)
                self.assertIs(self.soon(exchange.are_same, manual, one, other), found is None)
                told = self.soon(exchange.is_parting_spendings, manual, one, other, found)
                self.assertIs(told, found is not None)
            for ahead, behind in [(0, 0), (30, 30), (7, 29)]:
                self.soon(exchange.need_between, manual, ["x", "y", "z", "zz"] * 10, rooms[0], rooms[-1], ahead, behind)
                self.soon(exchange.shown_by, manual, rooms[0], ahead, rooms[-1], behind)

    def test_clerks(self):
        for manual in widest(4, 4, 16):
            self.soon_or_many(clerks.purses_ahead, manual, 2)
            book = ["x", "y", "z", "zz"] * 10
            self.soon(clerks.could_be, manual, book)
            for ahead in range(3):
                self.soon_or_many(clerks.unseen_purse, manual, ahead)
                plan = self.soon(clerks.outside_plan, manual, ahead)
                self.assertIs(self.soon(clerks.is_outside_plan, manual, ahead, plan), plan is not None)
                for purse in [0, 5, 12]:
                    table = self.soon(clerks.clerk_table, manual, purse, ahead)
                    against = self.soon(clerks.plan_against, manual, purse, ahead)
                    self.assertIs(self.soon(clerks.is_clerk_table, manual, purse, ahead, table), table is not None)
                    self.assertIs(self.soon(clerks.is_plan_against, manual, purse, ahead, against), table is None)
                    if table is not None:
                        self.soon(clerks.followed, manual, purse, ahead, table, book)

    def test_rules(self):
        for manual in widest(4, 4, 16):
            choices = plain_rule_choices(manual)
            for purse, at in [(0, 0), (12, 0), (12, -1)]:
                rule = {key: manners[at] for key, manners in choices.items()}
                self.soon(clerks.spoiling_book, manual, purse, rule)

    def test_made(self):
        manuals = widest(4, 4, 16)
        for one, other in zip(manuals, manuals[1:] + manuals[:1]):
            made_ones = [self.soon(made.either_of, one, other), self.soon(made.begun, one), self.soon(made.mirrored, one),
                         self.soon(made.limited_to, one, other)]
            full = Manual([m for m in one.manners() if m[3][0] == "coins"], one.beginnings(), one.ends())
            made_ones += [self.soon(made.followed_by, full, other), self.soon(made.repeated, full)]
            for manual in made_ones[:1] + made_ones[4:]:
                self.soon(made.unlike_book, manual, one, 4)
            self.soon(made.unlike_book, one, one, 4)
            self.soon(made.unlike_book, made_ones[0], made.either_of(other, one), 4)

    def test_cutting(self):
        for manual in widest(4, 4, 16):
            for book in [["x", "y", "z", "zz"] * 10, ["x"] * 40]:
                pieces = self.soon(cutting.fewest_pieces, manual, book)
                self.assertIs(self.soon(cutting.are_fewest_pieces, manual, book, pieces), pieces is not None)
                for function in [cutting.many_pieces, cutting.is_cuttable, cutting.may_cut, cutting.must_cut]:
                    self.soon(function, manual, book)
            self.soon(cutting.cuts, manual)
            for many in [0, 1, 2, 12]:
                book = self.soon(cutting.uncut, manual, many)
                self.assertIs(self.soon(cutting.is_uncut, manual, many, book), book is not None)
        for manual in widest(3, 3, 9):
            self.soon_or_many(cutting.most_pieces, manual)

    def test_cuts_within(self):
        manuals = widest(2, 3, 8)
        for elder, newer in list(zip(manuals, manuals[1:])) + [pair_with_200_pairs(), pair_with_201_pairs()]:
            self.soon_or_many(cutting.cuts_within, elder, newer)


if __name__ == "__main__":
    unittest.main()
