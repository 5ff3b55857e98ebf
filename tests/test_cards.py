"""Points 30 to 32, against plain reckonings."""

import itertools
import unittest

from tests import plain_cards as plain
from tests.anything import bent, odd_objects, same
from tests.drawn import books_up_to, drawn_manuals
from tests.plain import plain_rooms, plain_rows
from withinbooks.cards import (
    best_part, card_of, cards_behind, is_better, is_best_part, is_card, marks_behind, value_of)
from withinbooks.manuals import Manual

MARKS = plain.MARKS


def all_cards(size):
    rows = list(itertools.product(MARKS, repeat=size))
    return list(itertools.product(rows, repeat=size))


class MarksTest(unittest.TestCase):
    def test_each_two_marks(self):
        for one, other in itertools.product(MARKS, repeat=2):
            self.assertEqual(marks_behind(one, other), plain.plain_marks_behind(one, other))
            self.assertIs(is_better(one, other), MARKS.index(one) < MARKS.index(other))

    def test_marks_come_to_the_same_however_they_are_grouped(self):
        for one, two, three in itertools.product(MARKS, repeat=3):
            self.assertEqual(marks_behind(marks_behind(one, two), three), marks_behind(one, marks_behind(two, three)))


class CardsTest(unittest.TestCase):
    def test_cards_of_books(self):
        for manual in drawn_manuals(60, 150):
            for book in books_up_to(["x", "y"], 3) + [["q"], ["x", "q"]]:
                card = card_of(manual, book)
                self.assertEqual(card, plain.plain_card(manual, book))
                self.assertTrue(is_card(manual, card))
                self.assertFalse(any("many" in row for row in card))

    def test_the_card_of_two_books_is_what_their_cards_make(self):
        for manual in drawn_manuals(61, 60):
            for book in books_up_to(["x", "y"], 4):
                for at in range(len(book) + 1):
                    made = cards_behind(manual, card_of(manual, book[:at]), card_of(manual, book[at:]))
                    self.assertEqual(made, card_of(manual, book))

    def test_cards_behind_by_all_third_rooms(self):
        for rooms in [[], ["a"], ["a", "b"]]:
            manual = Manual([], rooms, [])
            cards = all_cards(len(rooms))
            for at, one in enumerate(cards):
                other = cards[at * 37 % len(cards)]
                self.assertEqual(cards_behind(manual, one, other), plain.plain_behind(one, other))

    def test_is_card(self):
        for rooms in [[], ["a"], ["a", "b"], ["a", "b", "c"]]:
            manual = Manual([], rooms, [])
            size = len(rooms)
            values = all_cards(size)[::391] if size < 3 else [tuple([tuple(MARKS[:3])] * 3)]
            for value in values + odd_objects():
                self.assertIs(is_card(manual, value), plain.is_plain_card(value, size), repr(value))
            for value in bent(values[-1]):
                self.assertIs(is_card(manual, value), plain.is_plain_card(value, size), repr(value))

    def test_values(self):
        for manual in drawn_manuals(62, 100):
            for book in books_up_to(["x", "y"], 2):
                card = card_of(manual, book)
                self.assertEqual(value_of(manual, card), plain.plain_value(manual, card))
        manual = Manual([], ["a", "b"], ["b"])
        self.assertEqual(value_of(manual, (("full", "many"), ("full", "some"))), "some")
        self.assertEqual(value_of(Manual([], ["a"], []), (("full",),)), "never")
        self.assertEqual(value_of(Manual([], [], ["a"]), (("full",),)), "never")
        self.assertEqual(value_of(Manual([], [], []), ()), "never")


class PartsTest(unittest.TestCase):
    def test_best_parts(self):
        for manual in drawn_manuals(63, 80):
            rooms = plain_rooms(manual)
            for book in books_up_to(["x", "y"], 2) + [["x", "y", "x"], ["q"]]:
                for room, other in itertools.product(rooms, repeat=2):
                    self.check_parts(manual, book, room, other)

    def check_parts(self, manual, book, room, other):
        rooms = plain_rooms(manual)
        mark = card_of(manual, book)[rooms.index(room)][rooms.index(other)]
        parts = [part for part, at in plain.plain_links(manual, book, room) if at == other]
        rights = [part for part in parts if plain.plain_mark(part) == mark]
        found = best_part(manual, book, room, other)
        self.assertEqual(found is None, mark == "never")
        self.assertIs(is_best_part(manual, book, room, other, found), mark != "never")
        for value in parts + bent(found)[::3]:
            right = any(same(value, part) for part in rights)
            self.assertIs(is_best_part(manual, book, room, other, value), right, repr(value))

    def test_all_rows_of_manners(self):
        for manual in drawn_manuals(64, 60, rooms=2, manners=5):
            rows = plain_rows(manual, 2) + [[]] + [[one, two] for one in manual.manners() for two in manual.manners()]
            for room, other in itertools.product(plain_rooms(manual), repeat=2):
                for book in books_up_to(["x", "y"], 2):
                    parts = [part for part, at in plain.plain_links(manual, book, room) if at == other]
                    best = plain.plain_best(plain.plain_mark(part) for part in parts)
                    for row in rows:
                        right = row in parts and plain.plain_mark(row) == best
                        self.assertIs(is_best_part(manual, book, room, other, row), right)

    def test_a_fill_is_better_than_spending_nothing(self):
        fill, free, some = [("a", "x", "a", effect) for effect in [("fill", 3, 3), ("coins", 0), ("coins", 1)]]
        manual = Manual([fill, free, some], ["a"], ["a"])
        self.assertEqual([best_part(manual, ["x"], "a", "a"), card_of(manual, ["x"])], [[fill], (("full",),)])
        self.assertFalse(is_best_part(manual, ["x"], "a", "a", [free]))
        self.assertTrue(is_best_part(manual, ["x", "x"], "a", "a", [some, fill]))


if __name__ == "__main__":
    unittest.main()
