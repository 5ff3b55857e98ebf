"""Points 117 to 121, against texts written by hand."""

import unittest

from tests import plain_texts as plain
from tests.anything import bent, odd_objects, same
from tests.drawn import books_up_to, drawn_manuals, widest_manual
from tests.plain import is_plain_change, is_plain_word
from tests.plain_cards import is_plain_card, is_plain_expression, plain_expressions
from tests.plain_exchange import with_places
from withinbooks import errors
from withinbooks.manuals import Manual, told_changes
from withinbooks.papers import (
    book_text, change_text, expression_text, manual_text, pairs_text, read_book, read_change, read_expression, read_manual,
    read_pairs, read_table, table_text)
from withinbooks.tables import least_table
from withinbooks.within import least_pairs

MANNER = ("in", "carry", "out", ("coins", 1))
CHANGES = [("put", MANNER), ("out", MANNER[:3] + (("fill", 0, 3),)), ("effect", MANNER, ("fill", 2, 0)),
           ("effect", MANNER[:3] + (("fill", 1, 2),), ("coins", 3)), ("start", "coins"), ("unstart", "fill"), ("stop", "put"),
           ("unstop", "end"), ("effect", ("coins", "coins", "coins", ("coins", 0)), ("coins", 0)),
           ("put", ("begins", "ends", "fill", ("fill", 0, 0))), ("effect", ("fill", "fill", "fill", ("fill", 1, 1)), ("fill", 1, 2))]


def is_any_card(value):
    return type(value) is tuple and is_plain_card(value, len(value))


def is_any_pair(value):
    return type(value) is tuple and len(value) == 2 and is_any_card(value[0]) and is_any_card(value[1])


class TextsTest(unittest.TestCase):
    def both_ways(self, writer, reader, thing, text):
        self.assertEqual(writer(thing), text)
        told = reader(text)
        if isinstance(thing, Manual):
            self.assertTrue(told == thing)
        else:
            self.assertTrue(same(told, thing), text)

    def bend(self, writer, reader, text, step=1):
        """A text that is bent is refused, or is just the text of what is read."""
        read = 0
        for value in plain.bent_texts(text)[::step]:
            try:
                told = reader(value)
            except errors.InvalidText as caught:
                self.assertIs(caught.value, value)
            else:
                self.assertEqual(writer(told), value)
                read += 1
        return read

    def refuse_odd_objects(self, writer, reader):
        for value in odd_objects() + [["a"], ("a",), 7]:
            try:
                told = reader(value)
            except errors.InvalidText as caught:
                self.assertIs(caught.value, value)
            else:
                self.assertTrue(type(value) is str and writer(told) == value)

    def test_manuals(self):
        read = 0
        wide = [widest_manual(seed, 4, 4, 16, 0.5) for seed in range(4)]
        for at, manual in enumerate(drawn_manuals(800, 40, rooms=3, jobs=2, manners=4) + wide):
            text = plain.plain_manual_text(manual)
            self.both_ways(manual_text, read_manual, manual, text)
            if at % 3 == 0:
                read += self.bend(manual_text, read_manual, text)
        self.assertGreater(read, 100)
        odd = Manual([("begins", "ends", "begins", ("coins", 3)), ("ends", "a", "begins", ("fill", 0, 2))], ["ends"], ["begins", "ends"])
        self.both_ways(manual_text, read_manual, odd, plain.plain_manual_text(odd))
        self.bend(manual_text, read_manual, plain.plain_manual_text(odd))
        self.refuse_odd_objects(manual_text, read_manual)

    def test_texts_that_are_no_manuals(self):
        right = "a x a coins 1\na y a coins 1\nbegins a b\nends a"
        read_manual(right)
        wrongs = ["", "begins", "ends", "begins\n", "ends\nbegins", "begins a\nends a\n", "begins b a\nends", "begins a a\nends",
                  "begins A\nends", "a y a coins 1\na x a coins 1\nbegins\nends", "a x a coins 1\na x a coins 1\nbegins\nends",
                  "a x a coins 01\nbegins\nends", "a x a coins 4\nbegins\nends", "a x a coins -1\nbegins\nends",
                  "a x a coins 1 1\nbegins\nends", "a x a fill 1\nbegins\nends", "a x a\nbegins\nends", "a x coins 1\nbegins\nends",
                  "begins\nends\nbegins\nends", "\nbegins\nends", "begin\nends", "begins\nend", "a x a coins 1\nends\nbegins",
                  "begins a\nends 1", "a x a coins 1 \nbegins\nends", "begins a\r\nends a", "a x a coins +1\nbegins\nends",
                  "a x a coins " + "1" * 5000 + "\nbegins\nends"]
        for wrong in wrongs:
            with self.assertRaises(errors.InvalidText) as caught:
                read_manual(wrong)
            self.assertIs(caught.exception.value, wrong)

    def test_changes(self):
        read = 0
        manuals = drawn_manuals(801, 30)
        changes = CHANGES + [change for one, other in zip(manuals, manuals[1:]) for change in told_changes(one, other)]
        for at, change in enumerate(changes):
            text = plain.plain_change_text(change)
            self.both_ways(change_text, read_change, change, text)
            read += self.bend(change_text, read_change, text, 1 if at < len(CHANGES) else 23)
        self.assertGreater(read, 200)
        self.refuse_odd_objects(change_text, read_change)
        for change in odd_objects() + [one for change in CHANGES[:5] for one in bent(change)]:
            if is_plain_change(change):
                self.both_ways(change_text, read_change, change, plain.plain_change_text(change))
                continue
            with self.assertRaises(errors.InvalidChange) as caught:
                change_text(change)
            self.assertIs(caught.exception.value, change)

    def test_books(self):
        for book in books_up_to(["x", "carry", "end"], 3) + [["abcdefgh"] * 40]:
            self.both_ways(book_text, read_book, book, " ".join(book))
        for text in ["", "x", "carry rest", "a b c"]:
            self.assertGreater(self.bend(book_text, read_book, text), 0)
        self.refuse_odd_objects(book_text, read_book)
        for text in [" ", "x ", " x", "x  y", "x\ny", "X", "x1", "abcdefghi", "x\t", "\n"]:
            self.assertRaises(errors.InvalidText, read_book, text)
        for value in odd_objects():
            if type(value) is not list or not all(is_plain_word(job) for job in value):
                self.assertRaises(errors.InvalidBook, book_text, value)

    def test_expressions(self):
        listed = [with_places(one) for size in range(4) for one in plain_expressions(["x", "place"], size, 2)]
        listed += [("row", []), ("row", [("row", []), ("again", ("row", [])), "carry"]), ("again", ("place",)), ("place",)]
        deep = "carry"
        for at in range(30):
            deep = ("again", deep) if at % 3 else ("row", [deep, ("place",)])
        for at, expression in enumerate(listed + [deep]):
            text = plain.plain_expression_text(expression)
            self.both_ways(expression_text, read_expression, expression, text)
            if at % 40 == 0 or at > len(listed) - 8:
                self.bend(expression_text, read_expression, text)
        self.refuse_odd_objects(expression_text, read_expression)
        for value in odd_objects() + bent(("row", ["x", ("again", ("place",))])):
            if not is_plain_expression(value, True):
                with self.assertRaises(errors.InvalidExpression) as caught:
                    expression_text(value)
                self.assertIs(caught.exception.value, value)

    def test_texts_that_are_no_expressions(self):
        for text in ["", " ", "*", "* x", "x y", "( x", "x )", "( x ) )", ") (", "( * )", "()", "(x)", "x*", "x  *", "x * ",
                     " x", "( )  ", "??", "? ?", "( ( x )", "X", "x1", "( x\n)", "x *\n", "row", "again *"]:
            if text in ("row", "again *"):
                self.assertEqual(expression_text(read_expression(text)), text)
                continue
            with self.assertRaises(errors.InvalidText) as caught:
                read_expression(text)
            self.assertIs(caught.exception.value, text)

    def test_tables(self):
        some, two = (("some",),), (("free", "never"), ("full", "many"))
        tables = [[], [()], [some], [some, some], [two, some, (), two], [(), ()]]
        tables += [least_table(manual) for manual in drawn_manuals(802, 12, rooms=3, manners=4)]
        for at, table in enumerate(tables):
            text = "\n".join(plain.plain_card_text(card) for card in table)
            if table == [()]:
                self.assertEqual(text, "-")
            self.both_ways(table_text, read_table, table, text)
            if len(text) < 60:
                self.bend(table_text, read_table, text)
        self.refuse_odd_objects(table_text, read_table)
        for value in odd_objects() + bent([two, some])[::2]:
            if type(value) is not list or not all(is_any_card(card) for card in value):
                with self.assertRaises(errors.InvalidTable) as caught:
                    table_text(value)
                self.assertIs(caught.exception.value, value)
            else:
                self.both_ways(table_text, read_table, value, "\n".join(plain.plain_card_text(card) for card in value))
        for text in ["\n", "free\n", "\nfree", "--", "- -", "free free", "free / free", "free / ", "/", "free|free", "Free",
                     "free / never / free", "free never / never", " ", "- / -", "free never /never free", "bounded"]:
            self.assertRaises(errors.InvalidText, read_table, text)

    def test_pairs(self):
        some, two = (("some",),), (("free", "never"), ("full", "many"))
        tables = [[], [((), ())], [(some, two), (two, ()), (some, two)]]
        manuals = drawn_manuals(803, 12, rooms=2, manners=3)
        tables += [least_pairs(one, other) for one, other in zip(manuals, manuals[1:])]
        for table in tables:
            text = "\n".join(" | ".join(plain.plain_card_text(card) for card in pair) for pair in table)
            self.both_ways(pairs_text, read_pairs, table, text)
            if len(text) < 60:
                self.bend(pairs_text, read_pairs, text)
        self.refuse_odd_objects(pairs_text, read_pairs)
        for value in odd_objects() + bent([(some, two)])[::2]:
            if type(value) is not list or not all(is_any_pair(pair) for pair in value):
                with self.assertRaises(errors.InvalidTable) as caught:
                    pairs_text(value)
                self.assertIs(caught.exception.value, value)
        for text in ["free", "free | free | free", "free |free", "| free", "free | ", "- | - |", "-|-", "free | free\n", "|"]:
            self.assertRaises(errors.InvalidText, read_pairs, text)


if __name__ == "__main__":
    unittest.main()
