"""Points 27 to 29, against plain reckonings."""

import itertools
import unittest

from tests import plain
from tests.anything import bent, odd_objects, same
from tests.drawn import books_of_size, books_up_to, drawn_manuals, drawn_pairs
from withinbooks.doing import (
    do_alike, does, doing_table, done_book, done_place, growth, is_doing_table, is_missed, is_shortest_done, many_done,
    missed, rooms_after, shortest_done)
from withinbooks.errors import InvalidCount
from withinbooks.manuals import Manual

FREE = ("coins", 0)
BOOKS = books_up_to(["x", "y"], 4) + [["q"], ["x", "q"]]


def does_plainly(manual, book):
    return len(plain.plain_ways(manual, book)) > 0


def plainly_missed(elder, newer, books):
    """The shortest books that are missed."""
    found = [book for book in books if does_plainly(elder, book) and not does_plainly(newer, book)]
    return [book for book in found if len(book) == len(found[0])]


class DoesTest(unittest.TestCase):
    def test_does_and_rooms_after(self):
        for manual in drawn_manuals(51, 200):
            for book in BOOKS:
                self.assertIs(does(manual, book), does_plainly(manual, book))
                rooms = sorted({room for _, room in plain.plain_parts(manual, book)})
                self.assertEqual(rooms_after(manual, book), rooms)

    def test_shortest_done(self):
        for manual in drawn_manuals(52, 200):
            done = [book for book in BOOKS if does_plainly(manual, book)]
            shortest = [book for book in done if len(book) == len(done[0])]
            found = shortest_done(manual)
            self.assertEqual(found is None, not done)
            self.assertIs(is_shortest_done(manual, found), found is not None)
            for value in bent(found) + BOOKS + odd_objects()[::7]:
                right = any(same(value, book) for book in shortest)
                self.assertIs(is_shortest_done(manual, value), right, repr(value))


class MissedTest(unittest.TestCase):
    def test_missed(self):
        books = books_up_to(["x", "y"], 5)
        for elder, newer in drawn_pairs(53, 300):
            rights = plainly_missed(elder, newer, books)
            found = missed(elder, newer)
            self.assertEqual(found is None, not rights)
            self.assertIs(is_missed(elder, newer, found), found is not None)
            for value in bent(found) + books[:20] + odd_objects()[::7]:
                self.assertIs(is_missed(elder, newer, value), any(same(value, book) for book in rights), repr(value))
            self.assertIs(do_alike(elder, newer), not rights and not plainly_missed(newer, elder, books))

    def test_a_long_missed_book(self):
        wheel = Manual([("a", "x", "b", FREE), ("b", "x", "c", FREE), ("c", "x", "a", FREE)], ["a"], ["a"])
        short = Manual([("a", "x", "b", FREE), ("b", "x", "a", FREE)], ["a"], ["a"])
        self.assertEqual([missed(wheel, short), missed(short, wheel)], [["x"] * 3, ["x"] * 2])
        self.assertFalse(is_missed(wheel, short, ["x"] * 9))

    def test_doing_tables(self):
        for elder, newer in drawn_pairs(54, 300):
            table = doing_table(elder, newer)
            self.assertEqual(table is None, missed(elder, newer) is not None)
            self.assertIs(is_doing_table(elder, newer, table), table is not None)
            self.assertIs(plain.is_plain_doing_table(elder, newer, table), table is not None)
            for value in bent(table) + odd_objects()[::7]:
                right = plain.is_plain_doing_table(elder, newer, value)
                self.assertIs(is_doing_table(elder, newer, value), right, repr(value))

    def test_all_doing_tables(self):
        for elder, newer in drawn_pairs(55, 80):
            sets = [rooms for many in range(3) for rooms in itertools.combinations(plain.plain_rooms(newer), many)]
            rows = list(itertools.product(plain.plain_rooms(elder), sets))
            found = 0
            for many in range(len(rows) + 1):
                for value in itertools.combinations(rows, many):
                    right = plain.is_plain_doing_table(elder, newer, list(value))
                    self.assertIs(is_doing_table(elder, newer, list(value)), right)
                    found += right
            self.assertEqual(found > 0, missed(elder, newer) is None)


class CountsTest(unittest.TestCase):
    def test_many_books_and_places(self):
        for manual in drawn_manuals(56, 120):
            for size in range(5):
                done = [book for book in books_of_size(["x", "y"], size) if does_plainly(manual, book)]
                self.assertEqual(many_done(manual, size), len(done))
                self.assertEqual([done_book(manual, size, at) for at in range(len(done))], done)
                self.assertEqual([done_place(manual, book) for book in done], list(range(len(done))))
                for number in [len(done), len(done) + 1, 10 ** 29]:
                    with self.assertRaises(InvalidCount) as caught:
                        done_book(manual, size, number)
                    self.assertIs(caught.exception.value, number)
            for book in BOOKS:
                self.assertEqual(done_place(manual, book) is None, not does_plainly(manual, book))

    def test_forty_jobs(self):
        loops = [("a", job, "a", FREE) for job in ["d", "c", "b", "a"]]
        manual = Manual(loops, ["a"], ["a"])
        self.assertEqual(many_done(manual, 40), 4 ** 40)
        self.assertEqual(done_book(manual, 40, 4 ** 40 - 1), ["d"] * 40)
        self.assertEqual(done_place(manual, ["d"] * 39 + ["a"]), 4 ** 40 - 4)
        book = done_book(manual, 40, 123456789012345678901)
        self.assertEqual(done_place(manual, book), 123456789012345678901)

    def test_a_book_that_can_be_done_in_many_ways_counts_once(self):
        manual = Manual([("a", "x", "a", FREE), ("a", "x", "a", ("coins", 1)), ("a", "x", "b", FREE)], ["a"], ["a", "b"])
        self.assertEqual([many_done(manual, size) for size in range(4)], [1, 1, 1, 1])


class GrowthTest(unittest.TestCase):
    def test_against_numbers_of_great_sizes(self):
        seen = {}
        for manual in drawn_manuals(57, 200, rooms=3, jobs=3, manners=6):
            number = growth(manual)
            self.assertEqual(number, plain.plain_growth(manual), plain.plain_state(manual))
            seen[number] = True
        self.assertTrue({-1, 0, 1, None} <= set(seen))

    def test_powers(self):
        rooms = ["a", "b", "c", "d"]
        for many in range(1, 5):
            stays = [(room, "x", room, FREE) for room in rooms[:many]]
            steps = [(one, "y", other, FREE) for one, other in zip(rooms, rooms[1:many])]
            self.assertEqual(growth(Manual(stays + steps, ["a"], rooms[:many])), many - 1)
            self.assertEqual(growth(Manual(stays + steps, ["a"], [])), -1)

    def test_rings_side_by_side(self):
        doors = [("a", "y", "b", FREE), ("a", "z", "c", FREE)]
        rings = [("b", "x", "b", FREE), ("c", "x", "c", FREE)]
        self.assertEqual(growth(Manual(doors + rings, ["a"], ["b", "c"])), 0)
        more = [("c", "y", "d", FREE), ("b", "y", "d", FREE), ("d", "x", "d", FREE)]
        self.assertEqual(growth(Manual(doors + rings + more, ["a"], ["b", "c", "d"])), 1)
        self.assertEqual(growth(Manual(doors + rings + more, ["a"], ["b", "c"])), 0)

    def test_only_rooms_that_matter_count(self):
        twice = [("a", "x", "a", FREE), ("a", "y", "a", FREE)]
        self.assertEqual(growth(Manual(twice, ["a"], ["a"])), None)
        self.assertEqual(growth(Manual(twice, ["a"], ["b"])), -1)
        self.assertEqual(growth(Manual(twice, ["b"], ["a", "b"])), -1)
        self.assertEqual(growth(Manual(twice + [("a", "z", "b", FREE)], ["a"], ["b"])), None)
        self.assertEqual(growth(Manual([("a", "x", "a", FREE), ("a", "x", "b", FREE)], ["a"], ["a", "b"])), 0)
        wheels = [("a", "x", "b", FREE), ("b", "x", "a", FREE), ("a", "x", "c", FREE), ("c", "y", "a", FREE)]
        self.assertEqual(growth(Manual(wheels, ["a"], ["a"])), None)


if __name__ == "__main__":
    unittest.main()
