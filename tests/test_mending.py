"""Points 96 to 101, against plain reckonings."""

import unittest

from tests import plain_mending as plain
from tests.anything import bent, odd_objects
from tests.drawn import books_up_to, drawn_manuals, drawn_pairs, widest_manual
from tests.plain import is_plain_word
from tests.plain_cutting import does_plainly
from withinbooks import errors
from withinbooks.books import need_of
from withinbooks.doing import does
from withinbooks.manuals import Manual, jobs_of
from withinbooks.mending import (
    best_mending, corrections, is_best_mending, is_unmendable, is_unmended, mended_by, mends, most_corrections,
    unmendable, unmended)
from withinbooks.rests import least_purse

STAY = ("a", "x", "a", ("coins", 1))
BARE = [Manual([], [], []), Manual([], ["a"], ["a"]), Manual([STAY], [], ["a"]), Manual([STAY], ["a"], []),
        Manual([STAY], ["a"], ["a"]), Manual([("a", "x", "b", ("fill", 1, 1)), ("b", "y", "a", ("coins", 0))], ["a"], ["b"])]
STOPS = [[], ["x"], ["y"], ["y", "x"], ["none"], ["none", "y"]]


def lively(seed, many, rooms=2, jobs=2, manners=5):
    """Manuals that mostly do some books."""
    made = drawn_manuals(seed, many, rooms, jobs, manners)
    return [Manual(manual.manners(), manual.beginnings() or ["a"], manual.ends() or ["b"]) for manual in made]


def dense(seed, many, rooms=2, jobs=2, manners=6):
    """Manuals with many manners, and with one beginning and one end."""
    made = [widest_manual(seed + at, rooms, jobs, manners - at % 3, 0.2) for at in range(many)]
    return [Manual(manual.manners(), ["ab"[at % 2]], ["ab"[at // 2 % 2]]) for at, manual in enumerate(made)]


class MendingsTest(unittest.TestCase):
    def test_mended_by(self):
        for book in books_up_to(["x", "y"], 2):
            for mending in plain.all_mendings(book, ["x", "z"], [], 2):
                self.assertEqual(mended_by(book, mending), plain.plain_mended(book, mending))

    def test_wrong_mendings(self):
        judged = {True: 0, False: 0}
        for book in [[], ["x"], ["x", "y"], ["dot", "dot"]]:
            values = odd_objects() + [[("keep",)], [("leave",)], [("exchange", "x")], [("put", "x")], [["keep"]], [("keep", "x")],
                                      [("exchange",)], [("put", "x", "y")], [("put", "X")], [("put", ["x"])], [(1,)], [()]]
            for mending in plain.all_mendings(book, ["x", "z"], [], 1):
                values += bent(mending)[::3]
            for value in values:
                mended = plain.plain_mended(book, value)
                judged[mended is None] += 1
                if mended is not None:
                    self.assertEqual(mended_by(book, value), mended)
                    continue
                with self.assertRaises(errors.InvalidMending) as caught:
                    mended_by(book, value)
                self.assertIs(caught.exception.value, value)
        self.assertGreater(min(judged.values()), 60)

    def test_corrections(self):
        needs = {}
        for manual in BARE + lively(600, 40) + dense(603, 24, manners=5) + dense(604, 8, rooms=3):
            for at, book in enumerate(books_up_to(["x", "y", "none"], 3)):
                for stops in [STOPS[0], STOPS[1 + at % 5]] if len(book) < 3 else [STOPS[at % 6]]:
                    best = plain.best_mendings(manual, stops, book)
                    need = plain.plain_need_of(book, best[0], stops) if best else None
                    needs[need] = needs.get(need, 0) + 1
                    self.assertEqual(corrections(manual, stops, book), need)
                    found = best_mending(manual, stops, book)
                    if need is None:
                        self.assertIsNone(found)
                        continue
                    self.assertIn(found, best)
                    self.assertTrue(all(is_best_mending(manual, stops, book, mending) is True for mending in best[:20]))
        self.assertTrue(all(needs.get(need, 0) > 20 for need in [None, 0, 1, 2]) and len(needs) > 4, needs)

    def test_long_books(self):
        """By all ways of all books that are near: what is mended can be done, and has this need."""
        for manual in lively(601, 40, rooms=3, jobs=2, manners=7):
            for stops in STOPS[:4]:
                book = ["x", "y", "y", "none", "x", "x", "y", "x"] * 5
                found = best_mending(manual, stops, book)
                need = corrections(manual, stops, book)
                self.assertEqual(found is None, need is None)
                if found is not None:
                    self.assertTrue(does(manual, plain.plain_mended(book, found)))
                    self.assertTrue(plain.plain_keeps(book, found, stops))
                    self.assertEqual(plain.plain_need_of(book, found, stops), need)
                    self.assertTrue(is_best_mending(manual, stops, book, found))

    def test_bent_mendings(self):
        judged = {True: 0, False: 0}
        for manual in BARE + lively(602, 40) + dense(605, 16):
            for at, book in enumerate(books_up_to(["x", "y"], 3)[::2]):
                stops = STOPS[at % 6]
                need = plain.plain_corrections(manual, stops, book)
                values = plain.all_mendings(book, ["x", "y", "none"], [], 2)[::9] + odd_objects()[::19]
                for mending in plain.best_mendings(manual, stops, book)[:2]:
                    values += bent(mending)[::2]
                for value in values:
                    mended = plain.plain_mended(book, value)
                    right = need is not None and mended is not None and plain.plain_keeps(book, value, stops)
                    right = right and does_plainly(manual, mended) and plain.plain_need_of(book, value, stops) == need
                    self.assertIs(is_best_mending(manual, stops, book, value), right, repr(value))
                    judged[right] += 1
        self.assertGreater(min(judged.values()), 60)

    def test_wrong_stops(self):
        manual = BARE[4]
        for wrong in [["x", "x"], ["x", "y", "x"], ("x",), ["X"], None, {}, [1], "x"]:
            calls = [(corrections, [manual, wrong, None]), (best_mending, [manual, wrong, ["x"]]),
                     (is_best_mending, [manual, wrong, ["x"], []]), (mends, [manual, manual, wrong]),
                     (unmended, [manual, manual, wrong, None]), (most_corrections, [manual, manual, wrong])]
            for function, passed in calls:
                with self.assertRaises(errors.InvalidBook) as caught:
                    function(*passed)
                self.assertIs(caught.exception.value, wrong)

    def test_puts_one_behind_the_other(self):
        """From room to room against their order, and in it."""
        for names in ["abcd", "dcba", "badc", "cadb"]:
            manners = [(one, job, two, ("coins", 0)) for one, job, two in zip(names, ["p", "q", "p"], names[1:])]
            manual = Manual(manners, [names[0]], [names[3]])
            self.assertEqual([corrections(manual, [], []), corrections(manual, [], ["q"]), corrections(manual, ["q"], ["q"])], [3, 2, 1])
            self.assertEqual(best_mending(manual, [], []), [("put", "p"), ("put", "q"), ("put", "p")])
            self.assertEqual(best_mending(manual, ["q"], ["q"]), [("put", "p"), ("keep",), ("put", "p")])
            self.assertEqual([corrections(manual, ["q"], []), corrections(manual, [], ["none"] * 4)], [None, 4])

    def test_stops_are_counted_in_the_book(self):
        """A stop that is put in by nobody parts nothing; one that stands twice in the book parts twice."""
        strict = Manual([("w", "x", "v", ("coins", 0)), ("v", "dot", "w", ("coins", 0))], ["w"], ["w"])
        self.assertEqual([corrections(strict, ["dot"], ["dot"] * 4), corrections(strict, [], ["dot"] * 4)], [1, 2])
        self.assertEqual(corrections(strict, ["dot"], ["dot", "x", "x", "dot"]), 1)
        self.assertEqual(corrections(strict, ["dot", "x"], ["x", "x"]), None)


class MendsTest(unittest.TestCase):
    def pairs(self, seed, many):
        made = [(one, other) for one in BARE for other in BARE][seed % 2::2]
        made += drawn_pairs(seed, many, rooms=2, jobs=2, manners=5) + list(zip(lively(seed, many), lively(seed + 1, many)))
        return made + list(zip(dense(seed, many), dense(seed + 1, many, manners=4)[::-1]))

    def test_mends(self):
        for at, (elder, newer) in enumerate(self.pairs(610, 40)):
            for stops in [STOPS[at % 6], STOPS[(at + 1) % 6]]:
                made = mends(elder, newer, stops)
                self.assertTrue(made == plain.plain_mends(elder, newer, stops))
                for book in books_up_to(jobs_of(elder) + ["none"], 3):
                    need = corrections(newer, stops, book) if does(elder, book) else None
                    if book:
                        self.assertEqual(need_of(made, book), need)
                    else:
                        self.assertTrue(need_of(made, book) is None or does(elder, book))

    def test_letters(self):
        """Each pair of rooms uses up a letter, and one without a manner does, too."""
        elder = Manual([("p", "x", "q", ("coins", 3))], ["p"], ["q"])
        newer = Manual([("s", "x", "t", ("coins", 3))], ["s"], ["t"])
        made = mends(elder, newer, [])
        self.assertEqual(made.manners(), [("a", "x", "c", ("coins", 1)), ("a", "x", "d", ("coins", 0)),
                                          ("b", "x", "d", ("coins", 1))])
        self.assertEqual([made.beginnings(), made.ends()], [["a"], ["d"]])
        made = mends(elder, newer, ["x"])
        self.assertEqual(made.manners(), [("a", "x", "d", ("fill", 0, 0))])
        three = Manual([("s", "x", "t", ("coins", 0)), ("t", "x", "u", ("coins", 0))], ["s"], ["u"])
        self.assertIn(("a", "x", "f", ("coins", 1)), mends(elder, three, []).manners())
        four = Manual([(one, "y", two, ("coins", 0)) for one, two in zip("stu", "tuv")], ["s"], ["v"])
        self.assertEqual(len(mends(elder, four, []).manners()), 10)

    def test_corrections_ahead_of_a_stop_or_behind_it(self):
        free = ("coins", 0)
        elder = Manual([("e", "dot", "e", ("fill", 3, 3))], ["e"], ["e"])
        turns = [("s", "y", "t", free), ("s", "dot", "s", free), ("t", "dot", "t", free)]
        made = mends(elder, Manual(turns, ["s"], ["t"]), ["dot"]).manners()
        self.assertEqual(made, [("a", "dot", "a", ("fill", 0, 0)), ("a", "dot", "b", ("fill", 0, 1)),
                                ("a", "dot", "b", ("fill", 1, 0)), ("b", "dot", "b", ("fill", 0, 0))])
        made = mends(elder, Manual(turns + [("s", "dot", "t", free)], ["s"], ["t"]), ["dot"]).manners()
        self.assertEqual([manner[3] for manner in made if manner[0] != manner[2]], [("fill", 0, 0)])
        self.assertEqual(mends(elder, Manual(turns, ["s"], ["t"]), ["dot", "y"]).manners(), [
            ("a", "dot", "a", ("fill", 0, 0)), ("b", "dot", "b", ("fill", 0, 0))])

    def test_most_corrections(self):
        told = {}
        for at, (elder, newer) in enumerate(self.pairs(611, 60)):
            for stops in [STOPS[at % 6], []]:
                most = most_corrections(elder, newer, stops)
                told[most] = told.get(most, 0) + 1
                needs = [(book, corrections(newer, stops, book)) for book in books_up_to(jobs_of(elder), 4) if does(elder, book)]
                known = [need for _, need in needs if need is not None]
                if most is None:
                    self.assertIsNone(least_purse(mends(elder, newer, stops)))
                else:
                    self.assertTrue(all(need <= most for need in known))
                for many in range(4):
                    found = unmended(elder, newer, stops, many)
                    self.assertIs(found is None, most is not None and most <= many)
                    books = [book for book, need in needs if need is not None and need > many]
                    if found is not None:
                        self.assertGreater(corrections(newer, stops, found), many)
                        self.assertTrue(does(elder, found))
                        self.assertTrue(len(found) > 4 or len(found) == len(books[0]))
                        self.assertIs(is_unmended(elder, newer, stops, many, found), True)
                    for book in books[:30]:
                        self.assertIs(is_unmended(elder, newer, stops, many, book), len(book) == len(found))
        self.assertTrue(all(told.get(most, 0) > 2 for most in [None, 0, 1]), told)

    def test_unmendable(self):
        told = {}
        for at, (elder, newer) in enumerate(self.pairs(612, 60)):
            for stops in [STOPS[at % 6], STOPS[(at + 3) % 6], []]:
                found = unmendable(elder, newer, stops)
                size = None if found is None else len(found)
                told[size] = told.get(size, 0) + 1
                books = [book for book in books_up_to(jobs_of(elder), 4)
                         if does(elder, book) and corrections(newer, stops, book) is None]
                if found is None:
                    self.assertEqual(books, [])
                else:
                    self.assertTrue(does(elder, found) and corrections(newer, stops, found) is None)
                    self.assertTrue(len(found) > 4 or len(found) == len(books[0]))
                    self.assertIs(is_unmendable(elder, newer, stops, found), True)
                for book in books[:30]:
                    self.assertIs(is_unmendable(elder, newer, stops, book), len(book) == len(found))
        self.assertTrue(all(told.get(size, 0) > 5 for size in [None, 0, 1]) and len(told) > 3, told)

    def test_the_empty_book(self):
        """The elder manual does it, and the newer one only behind jobs that are put in."""
        elder = Manual([("a", "x", "b", ("coins", 0)), ("b", "x", "a", ("coins", 0))], ["a"], ["a"])
        newer = Manual([("s", "y", "t", ("coins", 0))], ["s"], ["t"])
        self.assertIsNone(need_of(mends(elder, newer, []), []))
        self.assertEqual([most_corrections(elder, newer, []), unmended(elder, newer, [], 0)], [None, []])
        self.assertEqual([unmended(elder, newer, [], 1), unmendable(elder, newer, [])], [["x", "x"], None])
        self.assertEqual([unmendable(elder, newer, ["y"]), unmended(elder, newer, ["y"], 0)], [[], None])
        self.assertEqual(unmendable(elder, newer, ["x"]), ["x", "x"])
        alone = Manual([], ["a"], ["a"])
        told = [most_corrections(alone, newer, []), unmended(alone, newer, [], 0), unmended(alone, newer, [], 1),
                most_corrections(alone, newer, ["y"]), unmendable(alone, newer, []), unmendable(alone, newer, ["y"])]
        self.assertEqual(told, [1, [], None, 0, None, []])
        self.assertEqual([is_unmended(alone, newer, [], 0, []), is_unmended(alone, newer, [], 1, []),
                          is_unmendable(alone, newer, ["y"], []), is_unmendable(alone, newer, [], [])],
                         [True, False, True, False])

    def test_unmendable_books_behind_the_empty_one(self):
        """The empty book is mended by puts; a book that leads to the same rooms is not."""
        elder = Manual([("a", "x", "a", ("coins", 0))], ["a"], ["a"])
        newer = Manual([("s", "y", "t", ("coins", 0))], ["s"], ["t"])
        self.assertEqual([unmendable(elder, newer, ["x"]), is_unmendable(elder, newer, ["x"], ["x"]),
                          is_unmendable(elder, newer, ["x"], []), unmendable(elder, newer, [])], [["x"], True, False, None])

    def test_bent_books(self):
        judged = {True: 0, False: 0}
        for at, (elder, newer) in enumerate(self.pairs(613, 30)):
            stops = STOPS[at % 6]
            shortest = [unmended(elder, newer, stops, 0), unmendable(elder, newer, stops)]
            values = odd_objects()[::11] + books_up_to(["x", "y"], 2)
            values += [value for book in shortest if book is not None for value in bent(book)]
            for value in values:
                is_word_list = type(value) is list and all(is_plain_word(job) for job in value)
                known = is_word_list and does(elder, value)
                need = corrections(newer, stops, value) if known else None
                rights = [known and need is not None and need > 0, known and need is None]
                rights = [right and len(value) == len(book) for right, book in zip(rights, shortest)]
                self.assertIs(is_unmended(elder, newer, stops, 0, value), rights[0], repr(value))
                self.assertIs(is_unmendable(elder, newer, stops, value), rights[1], repr(value))
                judged[rights[0] or rights[1]] += 1
        self.assertGreater(min(judged.values()), 40)

    def test_wrong_numbers_and_too_many(self):
        for wrong in [13, -1, True, None, "1"]:
            for function, passed in [(unmended, []), (is_unmended, [None])]:
                with self.assertRaises(errors.InvalidCount) as caught:
                    function(BARE[4], BARE[5], [], wrong, *passed)
                self.assertIs(caught.exception.value, wrong)
        self.assertEqual(unmended(BARE[4], BARE[1], [], 12), ["x"] * 13)
        self.assertTrue(is_unmended(BARE[4], BARE[1], [], 12, ["x"] * 13))
        refused = set()
        wide = dense(614, 30, rooms=3, jobs=3, manners=9)
        for elder, newer in list(zip(wide, wide[1:])) + list(zip(wide, dense(615, 30))):
            try:
                least_purse(mends(elder, newer, ["x"]))
            except errors.TooMany as caught:
                refused.add(caught.value)
                with self.assertRaises(errors.TooMany) as other:
                    most_corrections(elder, newer, ["x"])
                self.assertEqual(other.exception.value, caught.value)
        self.assertIn(120, refused)

    def test_more_than_40(self):
        """The elder manual does one book alone, and beginnings of it, of jobs that the newer one lacks."""
        def row(size):
            names = ["r" + chr(97 + at // 26) + chr(97 + at % 26) for at in range(size + 1)]
            manners = [(one, "y", two, ("coins", 0)) for one, two in zip(names, names[1:])]
            return Manual(manners, names[:1], names[-1:])
        newer = Manual([], ["a"], ["a"])
        self.assertEqual(most_corrections(row(40), newer, []), 40)
        with self.assertRaises(errors.TooMany) as caught:
            most_corrections(row(41), newer, [])
        self.assertEqual(caught.exception.value, 40)


if __name__ == "__main__":
    unittest.main()
