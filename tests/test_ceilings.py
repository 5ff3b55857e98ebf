"""Points 51 to 53, against plain reckonings."""

import unittest

from tests import plain_cards as plain
from tests.anything import bent, odd_objects, same
from tests.drawn import books_up_to, drawn_manuals
from tests.plain import plain_need
from withinbooks.agains import kind_of, written, written_size
from withinbooks.books import need_of
from withinbooks.ceilings import book_above, ceiling, is_book_above, is_book_of, is_top_book, top_book
from withinbooks.manuals import Manual

CARRY, REST = ("in", "carry", "in", ("coins", 1)), ("in", "rest", "in", ("fill", 0, 0))
ONE = Manual([CARRY, REST], ["in"], ["in"])
WHEEL = Manual([("a", "x", "b", ("coins", 0)), ("b", "x", "c", ("coins", 0)), ("c", "x", "a", ("fill", 3, 2))], ["a"], ["a"])
MOST = 8


def asked(seed, many, size):
    """Manuals with expressions, a few of all that have at most so many jobs."""
    listed = [one for jobs in range(size + 1) for one in plain.plain_expressions(["x", "y"], jobs, 2)]
    for at, manual in enumerate(drawn_manuals(seed, many, rooms=3, manners=5)):
        for expression in listed[at % 41::41]:
            yield manual, expression
        for expression in [("row", []), ("again", ("row", [])), ("again", "x"), ("again", ("row", ["x", "y"]))]:
            yield manual, expression


def plain_needs_of(manual, expression, most):
    """The books of an expression with at most so many jobs, shorter ones first, with their needs."""
    books = sorted(plain.plain_books_of(manual, expression, most), key=lambda book: (len(book), book))
    return [(list(book), need_of(manual, list(book))) for book in books]


def shortest(books):
    return [book for book in books if len(book) == len(books[0])]


class BooksOfTest(unittest.TestCase):
    def test_is_book_of(self):
        books = books_up_to(["x", "y"], 6)
        seen = 0
        for manual, expression in asked(120, 30, 3):
            rights = plain.plain_books_of(manual, expression, 6)
            seen += len(rights)
            for book in books:
                self.assertIs(is_book_of(manual, expression, book), tuple(book) in rights)
        self.assertGreater(seen, 300)

    def test_so_many_copies_as_the_steady_power(self):
        sizes = [size for size in range(13) if is_book_of(WHEEL, ("again", "x"), ["x"] * size)]
        self.assertEqual(sizes, [3, 6, 9, 12])
        inner = ("again", ("row", [("again", "x"), "y"]))
        for book, right in [("xxxy", True), ("xy", False), ("xxxyxxxxxxyxxxy", True), ("xxxyy", False), ("", False)]:
            self.assertIs(is_book_of(WHEEL, inner, list(book)), right)

    def test_copies_may_be_unlike(self):
        body = ("row", [("again", "carry"), "rest"])
        book = ["carry", "rest", "carry", "carry", "rest", "carry", "rest"]
        self.assertTrue(is_book_of(ONE, ("again", body), book))
        self.assertFalse(is_book_of(ONE, body, book))
        self.assertFalse(is_book_of(ONE, ("again", body), book + ["carry"]))

    def test_all_or_none_can_be_done(self):
        for manual, expression in asked(121, 60, 3):
            kind = kind_of(manual, expression)
            for book, need in plain_needs_of(manual, expression, 7):
                self.assertEqual(need is None, kind == "never")

    def test_written_books_of_one_manual_are_books_of_it(self):
        for manual, expression in asked(122, 40, 2):
            if written_size([manual], expression, 0) <= 200:
                self.assertTrue(is_book_of(manual, expression, written([manual], expression, 0)))


class CeilingsTest(unittest.TestCase):
    def test_ceilings(self):
        seen = {}
        for manual, expression in asked(123, 100, 3):
            top, kind = ceiling(manual, expression), kind_of(manual, expression)
            seen[top] = seen.get(top, 0) + 1
            self.assertEqual(top is None, kind == "grows")
            needs = plain_needs_of(manual, expression, MOST)
            book = top_book(manual, expression)
            if top is None or kind == "never":
                self.assertIsNone(book)
                self.assertEqual(top, 0 if kind == "never" else None)
                continue
            self.assertLessEqual(max([0] + [need for _, need in needs]), top)
            self.assertTrue(is_book_of(manual, expression, book))
            self.assertEqual(need_of(manual, book), top)
            tops = [one for one, need in needs if need == top]
            self.assertTrue(book in shortest(tops) if len(book) <= MOST else not tops)
        self.assertTrue({None, 0, 1, 2, 3, 4, 5, 6} <= set(seen))

    def test_bent_top_books(self):
        for manual, expression in asked(124, 40, 3):
            book = top_book(manual, expression)
            self.assertIs(is_top_book(manual, expression, book), book is not None)
            if book is not None and len(book) > 7:
                continue
            top, needs = ceiling(manual, expression), plain_needs_of(manual, expression, 7)
            rights = [one for one, need in needs if need is not None and need == top]
            for value in bent(book)[::2] + [one for one, _ in needs[::5]] + odd_objects()[::13]:
                right = any(same(value, one) for one in rights) and len(value) == len(rights[0])
                self.assertIs(is_top_book(manual, expression, value), right, repr(value))

    def test_books_above(self):
        found = 0
        for manual, expression in asked(125, 60, 3):
            needs = plain_needs_of(manual, expression, MOST)
            top, kind = ceiling(manual, expression), kind_of(manual, expression)
            for purse in [0, 1, 3, 6]:
                book = book_above(manual, expression, purse)
                above = [one for one, need in needs if need is not None and need > purse]
                if kind == "never" or (top is not None and top <= purse):
                    self.assertIsNone(book)
                    self.assertEqual(above, [])
                else:
                    found += 1
                    self.assertTrue(is_book_of(manual, expression, book))
                    self.assertGreater(need_of(manual, book), purse)
                    self.assertTrue(book in shortest(above) if len(book) <= MOST else not above)
                self.check_bent_above(manual, expression, purse, book, above)
        self.assertGreater(found, 100)

    def check_bent_above(self, manual, expression, purse, book, above):
        self.assertIs(is_book_above(manual, expression, purse, book), book is not None)
        if book is None or len(book) <= 6:
            for value in bent(book)[::4] + above[:9] + odd_objects()[::31]:
                right = any(same(value, one) for one in above) and len(value) == len(above[0])
                self.assertIs(is_book_above(manual, expression, purse, value), right, repr(value))

    def test_needs_are_plain_ones(self):
        for manual, expression in asked(126, 20, 2):
            for book, need in plain_needs_of(manual, expression, 5):
                self.assertEqual(need, plain_need(manual, book))

    def test_other_books_with_such_needs(self):
        """They are as long, and need as much, but are none of the expression."""
        both = ("row", ["carry", "rest"])
        self.assertEqual([is_top_book(ONE, both, ["carry", "rest"]), is_top_book(ONE, both, ["rest", "carry"])],
                         [True, False])
        grows = ("row", ["rest", ("again", "carry")])
        self.assertEqual([is_book_above(ONE, grows, 1, ["rest", "carry", "carry"]),
                          is_book_above(ONE, grows, 1, ["carry", "carry", "rest"])], [True, False])

    def test_an_expression_that_can_never_be_done(self):
        for expression in ["pray", ("again", "pray"), ("row", ["carry", ("again", "pray")])]:
            self.assertEqual([ceiling(ONE, expression), top_book(ONE, expression), book_above(ONE, expression, 0)],
                             [0, None, None])
            self.assertFalse(is_top_book(ONE, expression, ["pray"]))
            self.assertFalse(is_book_above(ONE, expression, 0, ["pray"]))
        bare = Manual([], [], [])
        self.assertEqual([ceiling(bare, ("row", [])), top_book(bare, ("row", []))], [0, None])
        self.assertTrue(is_book_of(bare, ("row", []), []))

    def test_a_ceiling_of_0(self):
        self.assertEqual([ceiling(ONE, ("row", [])), top_book(ONE, ("row", []))], [0, []])
        self.assertEqual(top_book(ONE, ("again", ("row", ["rest", ("again", "rest")]))), ["rest", "rest"])
        self.assertFalse(is_top_book(ONE, ("again", "rest"), ["rest", "rest"]))

    def test_what_grows_has_books_above_each_purse(self):
        for purse in range(13):
            book = book_above(ONE, ("again", ("row", ["rest", ("again", "carry")])), purse)
            self.assertEqual(book, ["rest"] + ["carry"] * (purse + 1))
        self.assertEqual(ceiling(WHEEL, ("again", "x")), 5)


if __name__ == "__main__":
    unittest.main()
