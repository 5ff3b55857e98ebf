"""Points 20 to 24, against plain reckonings."""

import itertools
import unittest

from tests import plain
from tests.anything import bent, odd_objects, same
from tests.drawn import books_up_to, drawn_manuals
from withinbooks.books import (
    dry_at, few_way, fewest_fills, is_book, is_few_way, is_least_way, is_paper, is_way, least_way, need_of, paper_of,
    stretches)
from withinbooks.errors import InvalidWay
from withinbooks.manuals import Manual

BOOKS = books_up_to(["x", "y"], 3) + [["q"], ["x", "q"], ["x", "x", "x", "y"], ["y", "x", "x", "x"]]


def asked_books(seed, many):
    """Drawn manuals with all short books."""
    for manual in drawn_manuals(seed, many):
        for book in BOOKS:
            yield manual, book


class BooksTest(unittest.TestCase):
    def test_is_book(self):
        for value in odd_objects() + bent(["go", "stop"]) + [["a"] * 400]:
            right = type(value) is list and all(plain.is_plain_word(job) for job in value)
            self.assertIs(is_book(value), right, repr(value))


class WaysTest(unittest.TestCase):
    def test_every_row_of_manners(self):
        for manual in drawn_manuals(31, 80, rooms=2, manners=4):
            for book in books_up_to(["x", "y"], 2):
                ways = plain.plain_ways(manual, book)
                for size in range(3):
                    for row in itertools.product(manual.manners(), repeat=size):
                        self.assertIs(is_way(manual, book, list(row)), list(row) in ways)

    def test_bent_ways(self):
        for manual, book in asked_books(32, 40):
            ways = plain.plain_ways(manual, book)
            for way in ways[:2]:
                for value in bent(way) + [way]:
                    right = any(same(value, other) for other in ways)
                    self.assertIs(is_way(manual, book, value), right, repr(value))

    def test_stretches(self):
        for manual, book in asked_books(33, 80):
            ways = plain.plain_ways(manual, book)
            for way in ways:
                self.assertTrue(same(stretches(manual, way), plain.plain_stretches(way)))
            for part, _ in plain.plain_parts(manual, book):
                if part not in ways:
                    with self.assertRaises(InvalidWay) as caught:
                        stretches(manual, part)
                    self.assertIs(caught.exception.value, part)

    def test_the_empty_book(self):
        stay = ("in", "go", "in", ("coins", 1))
        open_, shut = Manual([stay], ["in", "out"], ["out"]), Manual([stay], ["out"], ["in"])
        self.assertEqual([is_way(open_, [], []), need_of(open_, []), least_way(open_, []), stretches(open_, [])],
                         [True, 0, [], [0]])
        self.assertEqual([is_way(shut, [], []), need_of(shut, []), least_way(shut, []), few_way(shut, [], 3)],
                         [False, None, None, None])
        self.assertEqual([fewest_fills(open_, [], 0), dry_at(open_, [], 0), dry_at(shut, [], 0)], [0, None, 0])
        with self.assertRaises(InvalidWay):
            stretches(shut, [])


class NeedsTest(unittest.TestCase):
    def test_needs_and_least_ways(self):
        for manual, book in asked_books(34, 400):
            need = plain.plain_need(manual, book)
            self.assertEqual(need_of(manual, book), need)
            way = least_way(manual, book)
            self.assertEqual(way is None, need is None)
            self.assertIs(is_least_way(manual, book, way), need is not None)
            for other in plain.plain_ways(manual, book):
                least = max(plain.plain_stretches(other)) == need
                self.assertIs(is_least_way(manual, book, other), least)

    def test_bent_least_ways(self):
        for manual, book in asked_books(35, 40):
            need = plain.plain_need(manual, book)
            least = [way for way in plain.plain_ways(manual, book) if max(plain.plain_stretches(way)) == need]
            for value in bent(least_way(manual, book)) + odd_objects()[::9]:
                self.assertIs(is_least_way(manual, book, value), any(same(value, way) for way in least))


class PaperTest(unittest.TestCase):
    def test_a_paper_or_a_way(self):
        for manual, book in asked_books(36, 150):
            need = plain.plain_need(manual, book)
            for purse in [0, 1, 3, 5, 12]:
                paper = paper_of(manual, book, purse)
                self.assertEqual(paper is None, need is not None and need <= purse)
                self.assertIs(is_paper(manual, book, purse, paper), paper is not None)
                self.assertIs(plain.is_plain_paper(manual, book, purse, paper), paper is not None)

    def test_bent_papers(self):
        for manual, book in asked_books(37, 30):
            for purse in [0, 2, 5]:
                paper = paper_of(manual, book, purse)
                for value in bent(paper):
                    right = plain.is_plain_paper(manual, book, purse, value)
                    self.assertIs(is_paper(manual, book, purse, value), right, repr(value))

    def test_all_papers_of_a_small_book(self):
        seen = 0
        for manual in drawn_manuals(38, 60, rooms=2, manners=4):
            rooms = plain.plain_rooms(manual)
            choices = [dict(zip(rooms, row)) for row in itertools.product([None, 0, 1], repeat=len(rooms))]
            choices = [{room: coins for room, coins in row.items() if coins is not None} for row in choices]
            for book in books_up_to(["x", "y"], 1):
                found = 0
                for rows in itertools.product(choices, repeat=len(book) + 1):
                    right = plain.is_plain_paper(manual, book, 1, list(rows))
                    self.assertIs(is_paper(manual, book, 1, list(rows)), right)
                    found += right
                need = plain.plain_need(manual, book)
                self.assertEqual(found > 0, need is None or need > 1)
                seen += found
        self.assertGreater(seen, 100)

    def test_a_room_that_is_no_beginning_may_stand_in_the_first_row(self):
        manual = Manual([("a", "go", "b", ("coins", 1))], ["a"], ["b"])
        rights = [[{"a": 0}, {}], [{"a": 0, "b": 0}, {}]]
        self.assertEqual([is_paper(manual, ["go"], 0, right) for right in rights], [True, True])
        wrongs = [[{"b": 0}, {}], [{"a": 0, "c": 0}, {}], [{"a": 0}, {"b": 0}], [{"a": 1}, {}], [{"a": 0}], []]
        self.assertEqual([is_paper(manual, ["go"], 0, wrong) for wrong in wrongs], [False] * 6)

    def test_a_fill_that_spends_too_much_behind_leads_nowhere(self):
        manual = Manual([("a", "go", "a", ("fill", 0, 3))], ["a"], ["a"])
        self.assertEqual([paper_of(manual, ["go"], 2), paper_of(manual, ["go"], 3)], [[{"a": 2}, {}], None])
        self.assertTrue(is_paper(manual, ["go"], 2, [{"a": 2}, {}]))


class PurseTest(unittest.TestCase):
    def test_dry_at(self):
        for manual, book in asked_books(39, 200):
            for purse in [0, 1, 2, 4, 7]:
                self.assertEqual(dry_at(manual, book, purse), plain.plain_dry(manual, book, purse))

    def test_fewest_fills(self):
        for manual, book in asked_books(40, 200):
            for purse in [0, 1, 2, 3, 6, 10 ** 29]:
                few = plain.plain_few_ways(manual, book, purse)
                fewest = plain.plain_fills(few[0]) if few else None
                self.assertEqual(fewest_fills(manual, book, purse), fewest)
                way = few_way(manual, book, purse)
                self.assertEqual(way is None, fewest is None)
                self.assertIs(is_few_way(manual, book, purse, way), fewest is not None)
                for other in plain.plain_ways(manual, book)[:8]:
                    self.assertIs(is_few_way(manual, book, purse, other), other in few)

    def test_bent_few_ways(self):
        for manual, book in asked_books(41, 40):
            for purse in [1, 4]:
                few = plain.plain_few_ways(manual, book, purse)
                for value in bent(few_way(manual, book, purse)):
                    self.assertIs(is_few_way(manual, book, purse, value), any(same(value, way) for way in few))


if __name__ == "__main__":
    unittest.main()
