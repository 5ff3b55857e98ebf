"""Points 45 to 49, and 44 for them, against plain reckonings."""

import itertools
import unittest

from tests import plain_cards as plain
from tests.anything import bent, odd_objects, same
from tests.bounded_manuals import long_row, manual_with_120_cards, manual_with_121_cards, manual_with_purse
from tests.drawn import books_up_to, drawn_manuals
from tests.plain import plain_need, plain_rooms
from withinbooks.books import need_of
from withinbooks.doing import does
from withinbooks.errors import InvalidRests, TooMany
from withinbooks.manuals import Manual
from withinbooks.rests import (
    harder_book, hardest_book, is_harder_book, is_hardest_book, is_rest_table, least_purse, rest_list, rest_table,
    rests_behind, rests_of)
from withinbooks.tables import one_purse

BARE = [Manual([], [], []), Manual([], ["a"], []), Manual([], [], ["a"]), Manual([], ["a"], ["a", "b"])]


def plain_shortest(found):
    """Those of some books, shorter ones first, that are as short as the first one."""
    return [book for book in found if len(book) == len(found[0])]


class RestsTest(unittest.TestCase):
    def test_rests_of_books(self):
        kinds = {}
        for manual in drawn_manuals(110, 120) + BARE:
            for book in books_up_to(["x", "y"], 3) + [["q"], ["x", "q"]]:
                for purse in [0, 1, 3, 5]:
                    rests = rests_of(manual, purse, book)
                    self.assertTrue(same(rests, plain.plain_rests(manual, purse, book)))
                    kinds.update({entry: True for entry in rests})
        self.assertTrue({"never", "short", 0, 1, 2, 3, 4, 5} <= set(kinds))

    def test_rests_behind(self):
        for manual in drawn_manuals(111, 60, rooms=2):
            size = len(plain_rooms(manual))
            for purse in [0, 2]:
                for left in itertools.product(["never", "short"] + list(range(purse + 1)), repeat=size):
                    for job in ["x", "y", "q"]:
                        rests = rests_behind(manual, purse, left, job)
                        self.assertTrue(same(rests, plain.plain_rests_behind(manual, purse, left, job)))

    def test_rests_are_those_behind_the_ones_ahead(self):
        for manual in drawn_manuals(112, 60):
            for book in books_up_to(["x", "y"], 4)[1:]:
                ahead = rests_of(manual, 4, book[:-1])
                self.assertEqual(rests_behind(manual, 4, ahead, book[-1]), rests_of(manual, 4, book))

    def test_what_are_no_rests(self):
        manual = Manual([("a", "x", "b", ("coins", 1))], ["a"], ["b"])
        for left in bent((2, "short")) + odd_objects() + [("never", 3), ("some", 1), (2,), (2, 2, 2), ("never", "Short")]:
            if plain.is_plain_rests(left, 2, 2):
                self.assertEqual(rests_behind(manual, 2, left, "y"), ("never", "never"))
            else:
                with self.assertRaises(InvalidRests) as caught:
                    rests_behind(manual, 2, left, "x")
                self.assertIs(caught.exception.value, left)


class RestTablesTest(unittest.TestCase):
    def test_rest_lists(self):
        for manual in drawn_manuals(113, 60) + BARE:
            for purse in [0, 1, 2]:
                listed = rest_list(manual, purse)
                first = []
                for book in books_up_to(plain.plain_jobs(manual), 5):
                    rests = rests_of(manual, purse, book)
                    if rests not in first:
                        first.append(rests)
                self.assertTrue(same(listed[:len(first)], first))
                self.assertEqual(len(listed), len(set(listed)))
                behind = [rests_behind(manual, purse, left, job) for left in listed for job in plain.plain_jobs(manual)]
                self.assertTrue(set(behind) <= set(listed))

    def test_rest_tables(self):
        both = {True: 0, False: 0}
        for manual in drawn_manuals(114, 120) + BARE:
            for purse in [0, 1, 3, 6]:
                listed = rest_list(manual, purse)
                serves = not any(plain.plain_bad(manual, left) for left in listed)
                both[serves] += 1
                found = rest_table(manual, purse)
                self.assertEqual(found is None, not serves)
                self.assertIs(is_rest_table(manual, purse, found), serves)
                self.assertIs(is_rest_table(manual, purse, listed[::-1]), serves)
                hard = [book for book, need in plain.plain_needs(manual, 4) if need > purse]
                self.assertFalse(serves and hard)
        self.assertTrue(all(many > 40 for many in both.values()))

    def test_bent_rest_tables(self):
        for manual in drawn_manuals(115, 14, rooms=2) + BARE:
            for purse in [1, 3]:
                for value in bent(rest_list(manual, purse)[:14])[::2] + bent(rest_table(manual, purse))[::9]:
                    right = plain.is_plain_rest_table(manual, purse, value)
                    self.assertIs(is_rest_table(manual, purse, value), right, repr(value))
            for value in odd_objects():
                self.assertIs(is_rest_table(manual, 1, value), plain.is_plain_rest_table(manual, 1, value), repr(value))

    def test_all_rest_tables(self):
        larger = 0
        for manual in drawn_manuals(116, 30, rooms=1, jobs=2, manners=3) + drawn_manuals(117, 8, rooms=2, jobs=1):
            size = len(plain_rooms(manual))
            rows = list(itertools.product(["never", "short", 0, 1], repeat=size))
            if size == 2:
                rows = rows[::2] + rest_list(manual, 1)
            rows = sorted(set(rows), key=repr)[:11]
            for many in range(len(rows) + 1):
                for value in itertools.combinations(rows, many):
                    right = plain.is_plain_rest_table(manual, 1, list(value))
                    self.assertIs(is_rest_table(manual, 1, list(value)), right)
                    larger += right and len(value) > len(rest_list(manual, 1))
        self.assertGreater(larger, 20)

    def test_true_is_no_count_in_a_table(self):
        manual = Manual([("a", "x", "a", ("coins", 1))], ["a"], [])
        self.assertTrue(is_rest_table(manual, 1, [(1,), (0,), ("short",)]))
        self.assertFalse(is_rest_table(manual, 1, [(True,), (0,), ("short",)]))
        self.assertFalse(is_rest_table(manual, 1, [(1,), (False,), ("short",)]))


class LeastPurseTest(unittest.TestCase):
    def test_harder_books(self):
        for manual in drawn_manuals(118, 100) + BARE:
            needs = plain.plain_needs(manual, 5)
            for purse in [0, 1, 2, 4]:
                found = harder_book(manual, purse)
                self.assertIs(is_harder_book(manual, purse, found), found is not None)
                rights = plain_shortest([book for book, need in needs if need > purse])
                if rights:
                    self.assertIn(found, rights)
                elif found is not None:
                    self.assertGreater(len(found), 5)
                    self.assertGreater(need_of(manual, found), purse)
                for value in bent(found)[::2] + [book for book, _ in needs[::7]]:
                    right = any(same(value, book) for book in rights)
                    if rights or found is None:
                        self.assertIs(is_harder_book(manual, purse, value), right, repr(value))

    def test_least_purses(self):
        seen = {}
        for manual in drawn_manuals(119, 120) + BARE:
            purse = least_purse(manual)
            seen[purse] = True
            self.assertEqual(purse is None, not one_purse(manual))
            if purse is None:
                self.assertEqual([hardest_book(manual), is_hardest_book(manual, None), is_hardest_book(manual, [])],
                                 [None, False, False])
                continue
            self.assertIsNone(harder_book(manual, purse))
            self.assertEqual(harder_book(manual, purse - 1) is not None if purse else True, True)
            self.check_hardest(manual, purse)
        self.assertTrue({None, 0, 1, 2, 3, 4, 5, 6} <= set(seen))

    def check_hardest(self, manual, purse):
        needs = plain.plain_needs(manual, 5)
        self.assertLessEqual(max([0] + [need for _, need in needs]), purse)
        rights = plain_shortest([book for book, need in needs if need == purse])
        found = hardest_book(manual)
        self.assertIs(is_hardest_book(manual, found), found is not None)
        if found is None:
            self.assertEqual([purse, needs], [0, []])
        else:
            self.assertEqual(need_of(manual, found), purse)
            self.assertTrue(found in rights if len(found) <= 5 else not rights)
        for value in bent(found)[::2] + [book for book, _ in needs[::5]] + odd_objects()[::11]:
            if rights or found is None:
                self.assertIs(is_hardest_book(manual, value), any(same(value, book) for book in rights), repr(value))

    def test_manuals_that_do_nothing(self):
        stay = ("a", "x", "a", ("coins", 3))
        for manual in BARE[:3] + [Manual([stay], ["a"], []), Manual([stay], [], ["a"]), Manual([stay], ["a"], ["b"])]:
            self.assertEqual([least_purse(manual), hardest_book(manual), harder_book(manual, 0)], [0, None, None])
            self.assertEqual([is_hardest_book(manual, []), is_harder_book(manual, 0, [])], [False, False])
            self.assertIsNotNone(rest_table(manual, 0))
        self.assertEqual([least_purse(BARE[3]), hardest_book(BARE[3])], [0, []])

    def test_the_hardest_book_of_a_least_purse_of_0_is_the_shortest_done(self):
        manual = Manual([("a", "x", "b", ("coins", 0)), ("b", "x", "b", ("fill", 0, 0))], ["a"], ["b"])
        self.assertEqual([least_purse(manual), hardest_book(manual)], [0, ["x"]])
        self.assertFalse(is_hardest_book(manual, ["x", "x"]))


class RefusalTest(unittest.TestCase):
    def test_a_least_purse_of_40(self):
        for manual in [manual_with_purse(40), long_row([3] * 13 + [1])]:
            self.assertEqual(least_purse(manual), 40)
            book = hardest_book(manual)
            self.assertEqual(need_of(manual, book), 40)
            self.assertTrue(is_hardest_book(manual, book))
            self.assertFalse(is_hardest_book(manual, book + ["x"]))
        self.assertEqual([least_purse(manual_with_purse(purse)) for purse in [36, 37, 38, 39]], [36, 37, 38, 39])

    def test_one_coin_more(self):
        for manual in [manual_with_purse(41), manual_with_purse(42), long_row([3] * 13 + [2])]:
            self.assertTrue(one_purse(manual))
            for function, more in [(least_purse, []), (hardest_book, []), (is_hardest_book, [None])]:
                with self.assertRaises(TooMany) as caught:
                    function(manual, *more)
                self.assertEqual(caught.exception.value, 40)
            self.assertEqual(need_of(manual, harder_book(manual, 40)) > 40, True)
            self.assertTrue(is_harder_book(manual, 40, harder_book(manual, 40)))

    def test_a_hundred_and_twenty_cards_and_one_more(self):
        manual = manual_with_120_cards()
        self.assertEqual([least_purse(manual), hardest_book(manual), is_hardest_book(manual, [])], [None, None, False])
        manual = manual_with_121_cards()
        for function, more in [(least_purse, []), (hardest_book, []), (is_hardest_book, [None])]:
            with self.assertRaises(TooMany) as caught:
                function(manual, *more)
            self.assertEqual(caught.exception.value, 120)
        self.assertTrue(rest_list(manual, 2))
        self.assertEqual(rest_table(manual, 2) is None, harder_book(manual, 2) is not None)
        self.assertIs(is_harder_book(manual, 2, harder_book(manual, 2)), True)

    def test_a_hundred_and_twenty_one_cards_come_ahead_of_a_great_purse(self):
        """The manual has both: very many cards, and books that need more than 40 coins."""
        many = manual_with_121_cards()
        far = [("b" + room, job, "b" + other, effect) for room, job, other, effect in long_row([3] * 14).manners()]
        manual = Manual(many.manners() + [(room[:8], job, other[:8], effect) for room, job, other, effect in far],
                        ["baroom"], ["boroom"])
        self.assertEqual(plain_need(manual, ["x"] * 14), 42)
        self.assertFalse(does(manual, ["x"]))
        with self.assertRaises(TooMany) as caught:
            least_purse(manual)
        self.assertEqual(caught.exception.value, 120)


if __name__ == "__main__":
    unittest.main()
