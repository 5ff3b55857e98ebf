"""Points 91 to 95, against plain reckonings."""

import unittest

from tests import plain_cutting as plain
from tests.anything import bent, odd_objects
from tests.bounded_manuals import manual_with_120_cards, manual_with_121_cards
from tests.drawn import books_up_to, close_pairs, drawn_manuals, drawn_pairs, widest_manual
from withinbooks import errors
from withinbooks.books import need_of
from withinbooks.cutting import (
    are_fewest_pieces, cuts, cuts_within, fewest_pieces, is_cuttable, is_uncut, many_pieces, may_cut, most_pieces,
    must_cut, uncut)
from withinbooks.doing import does
from withinbooks.manuals import Manual, jobs_of
from withinbooks.rests import least_purse
from withinbooks.tables import growing, least_table
from withinbooks.within import escape, is_within, least_pairs

STAY = ("a", "x", "a", ("coins", 1))
BARE = [Manual([], [], []), Manual([], ["a"], ["a"]), Manual([STAY], [], ["a"]), Manual([STAY], ["a"], []),
        Manual([STAY], ["a"], ["a"]), Manual([("a", "x", "b", ("fill", 1, 1))], ["a"], ["b"])]


def lone_cuts(seed, many):
    """Manuals most of which do not do the empty book, so that books are cut in places of their own."""
    made = []
    for manual in drawn_manuals(seed, many, rooms=3, jobs=2, manners=7):
        ends = [room for room in manual.ends() if room not in manual.beginnings()]
        made.append(Manual(manual.manners(), manual.beginnings() or ["a"], ends or ["c"]))
    return made


def chain(size):
    """Its pieces have one job, or so many, or more: a book of one job less is cut at each position."""
    names = ["r" + chr(97 + at // 26) + chr(97 + at % 26) for at in range(size + 1)]
    manners = [(one, "x", two, ("coins", 0)) for one, two in zip(names, names[1:])]
    manners.append((names[-1], "x", names[-1], ("coins", 0)))
    return Manual(manners, [names[0]], [names[1], names[-1]])


class PiecesTest(unittest.TestCase):
    def test_cuttings(self):
        many = {}
        for manual in BARE + drawn_manuals(500, 25) + lone_cuts(501, 40) + [self.lanes()]:
            for book in books_up_to(jobs_of(manual) + ["none"], 3) + books_up_to(jobs_of(manual), 6)[31::3]:
                fewest = plain.fewest_cuttings(manual, book)
                self.assertIs(is_cuttable(manual, book), bool(fewest))
                found = fewest_pieces(manual, book)
                if not fewest:
                    told = [found, many_pieces(manual, book), may_cut(manual, book), must_cut(manual, book)]
                    self.assertEqual(told, [None] * 4)
                    self.assertFalse(are_fewest_pieces(manual, book, None))
                    continue
                self.assertIn(found, fewest)
                self.assertEqual(many_pieces(manual, book), len(fewest[0]))
                self.assertEqual(may_cut(manual, book), plain.plain_may_cut(manual, book))
                self.assertEqual(must_cut(manual, book), plain.plain_must_cut(manual, book))
                self.assertTrue(all(are_fewest_pieces(manual, book, cutting) is True for cutting in fewest))
                many[len(fewest[0])] = many.get(len(fewest[0]), 0) + 1
        self.assertTrue(all(many[size] > 5 for size in range(1, 6)), many)

    def lanes(self):
        """Its pieces have one or three jobs."""
        lanes = [("a", "x", "b"), ("a", "y", "b"), ("a", "x", "c"), ("c", "y", "d"), ("d", "x", "e")]
        return Manual([lane + (("coins", 1),) for lane in lanes], ["a"], ["b", "e"])

    def test_bent_cuttings(self):
        judged = {True: 0, False: 0}
        for manual in BARE + lone_cuts(502, 30):
            for book in books_up_to(jobs_of(manual), 4)[::4]:
                cuttings = plain.all_cuttings(manual, book)
                values = cuttings + odd_objects()[::17] + [cutting + [[]] for cutting in cuttings] + plain.all_cuts(book)
                for value in values + [bend for cutting in cuttings[:2] for bend in bent(cutting)[::3]]:
                    right = plain.is_plain_fewest(manual, book, value)
                    self.assertIs(are_fewest_pieces(manual, book, value), right, repr(value))
                    judged[right] += 1
        self.assertGreater(min(judged.values()), 25)

    def test_longer_beginnings_of_fewer_pieces(self):
        steps = [("s", "a", "e"), ("s", "b", "e"), ("s", "d", "e"), ("s", "a", "f"), ("f", "b", "g"), ("g", "c", "e"),
                 ("s", "c", "h"), ("h", "d", "e")]
        manual, book = Manual([step + (("coins", 0),) for step in steps], ["s"], ["e"]), ["a", "b", "c", "d"]
        self.assertEqual(fewest_pieces(manual, book), [["a", "b", "c"], ["d"]])
        self.assertEqual([may_cut(manual, book), must_cut(manual, book)], [[3], [3]])
        self.assertIs(are_fewest_pieces(manual, book, [["a"], ["b"], ["c", "d"]]), False)

    def test_the_empty_book(self):
        done, undone = BARE[4], BARE[5]
        told = [many_pieces(done, []), fewest_pieces(done, []), may_cut(done, []), must_cut(done, [])]
        self.assertEqual(told, [1, [[]], [], []])
        self.assertEqual([many_pieces(undone, []), is_cuttable(undone, [])], [None, False])
        self.assertEqual([are_fewest_pieces(done, [], [[]]), are_fewest_pieces(done, [], [[], []]),
                          are_fewest_pieces(done, [], []), are_fewest_pieces(undone, [], [[]]),
                          are_fewest_pieces(done, ["x"], [["x"], []])], [True, False, False, False, False])

    def test_many_cuttings_of_long_books(self):
        """Of a book of 40 jobs there are very many cuttings with the fewest pieces, and each may cut elsewhere."""
        pieces = [(one, job, two, ("coins", 0)) for one, job, two in
                  [("a", "x", "b"), ("b", "x", "c"), ("c", "x", "d"), ("b", "y", "c")]]
        manual = Manual(pieces, ["a"], ["b", "c", "d"])
        book = ["x"] * 40
        self.assertEqual(many_pieces(manual, book), 14)
        self.assertEqual([may_cut(manual, book), must_cut(manual, book)],
                         [[at for at in range(1, 40)], []])
        self.assertEqual(must_cut(manual, ["x"] * 39), list(range(3, 39, 3)))


class CutsTest(unittest.TestCase):
    def test_cuts(self):
        for manual in BARE + drawn_manuals(510, 40) + lone_cuts(511, 40):
            made = cuts(manual)
            self.assertTrue(made == plain.plain_cuts(manual))
            for book in books_up_to(jobs_of(manual), 4)[::2]:
                pieces = many_pieces(manual, book)
                self.assertEqual(need_of(made, book), None if pieces is None else pieces - 1)

    def test_most_pieces_and_uncut(self):
        most = {}
        chains = [chain(size) for size in range(2, 6)] + [chain(3)] * 4
        for manual in BARE + drawn_manuals(512, 30) + lone_cuts(513, 60) + chains:
            try:
                told = most_pieces(manual)
            except errors.TooMany:
                continue
            most[told] = most.get(told, 0) + 1
            listed = [(book, many_pieces(manual, book)) for book in books_up_to(jobs_of(manual), 6)]
            listed = [(book, pieces) for book, pieces in listed if pieces is not None]
            self.assertIs(told is None, growing(cuts(manual)) is not None)
            self.assertIs(told == 0, not listed and uncut(manual, 0) is None)
            if told is not None:
                self.assertTrue(all(pieces <= told for _, pieces in listed))
            for many in range(4):
                found = uncut(manual, many)
                self.assertIs(found is None, told is not None and told <= many)
                books = [book for book, pieces in listed if pieces > many]
                if found is not None:
                    self.assertEqual(many_pieces(manual, found), many + 1)
                    self.assertTrue(len(found) > 6 or len(found) == len(books[0]))
                    self.assertIs(is_uncut(manual, many, found), True)
                for book in books[:40]:
                    self.assertIs(is_uncut(manual, many, book), len(book) == len(found))
        self.assertTrue(all(most.get(told, 0) > 3 for told in [None, 0, 1, 2]) and len(most) > 5, most)

    def test_bent_uncut_books(self):
        judged = {True: 0, False: 0}
        for manual in BARE + lone_cuts(514, 30):
            for many in range(3):
                found = uncut(manual, many)
                for value in odd_objects()[::9] + ([] if found is None else bent(found)) + books_up_to(["x", "y"], 3):
                    right = type(value) is list and all(type(job) is str and job in ["x", "y"] for job in value)
                    pieces = many_pieces(manual, value) if right else None
                    right = pieces is not None and pieces > many and len(value) == len(found)
                    self.assertIs(is_uncut(manual, many, value), right, repr(value))
                    judged[right] += 1
        self.assertGreater(min(judged.values()), 20)

    def test_wrong_numbers(self):
        for wrong in [13, -1, True, None, "1", [1]]:
            for function, passed in [(uncut, []), (is_uncut, [None])]:
                with self.assertRaises(errors.InvalidCount) as caught:
                    function(BARE[4], wrong, *passed)
                self.assertIs(caught.exception.value, wrong)
        self.assertIsNone(uncut(BARE[4], 12))
        self.assertEqual(uncut(BARE[5], 12), ["x"] * 13)

    def test_long_pieces(self):
        """A book that is cut into many pieces where a longer one is cut into fewer."""
        steps = [("a", "x", "b"), ("b", "x", "c"), ("c", "x", "c"), ("c", "y", "d")]
        manual = Manual([step + (("coins", 3),) for step in steps], ["a"], ["b", "d"])
        self.assertEqual(most_pieces(manual), None)
        self.assertEqual([many_pieces(manual, ["x"] * 3), many_pieces(manual, ["x"] * 3 + ["y"])], [3, 1])
        self.assertEqual(uncut(manual, 3), ["x"] * 4)


class CutsWithinTest(unittest.TestCase):
    def test_cuts_within(self):
        seen = {True: 0, False: 0}
        pairs = [(one, other) for one in BARE for other in BARE] + drawn_pairs(520, 40) + close_pairs(520, 40)
        pairs += list(zip(lone_cuts(521, 40), lone_cuts(522, 40)[::-1]))
        for elder, newer in pairs:
            try:
                told = is_within(plain.plain_cuts(elder), plain.plain_cuts(newer))
            except errors.TooMany:
                self.assertRaises(errors.TooMany, cuts_within, elder, newer)
                continue
            self.assertIs(cuts_within(elder, newer), told)
            seen[told] += 1
            if told:
                for book in books_up_to(jobs_of(elder), 3):
                    self.assertTrue(many_pieces(elder, book) is None or is_cuttable(newer, book))
            else:
                self.assertIsNotNone(escape(cuts(elder), cuts(newer)))
        self.assertGreater(min(seen.values()), 30)

    def test_too_many(self):
        refused = {120: 0, 40: 0}
        for manual in [manual_with_120_cards(), manual_with_121_cards()] + drawn_manuals(523, 60, 4, 3, 12, 0.3):
            try:
                purse = least_purse(cuts(manual))
            except errors.TooMany as caught:
                refused[caught.value] += 1
                with self.assertRaises(errors.TooMany) as other:
                    most_pieces(manual)
                self.assertEqual(other.exception.value, caught.value)
                self.assertTrue(caught.value == 40 or self.many_cards(cuts(manual)))
            else:
                told = most_pieces(manual)
                self.assertTrue(told == (None if purse is None else purse + 1) or (told == 0 and uncut(manual, 0) is None))
        self.assertGreater(refused[120], 0)

    def many_cards(self, manual):
        try:
            least_table(manual)
        except errors.TooMany:
            return True
        return False

    def test_more_than_40(self):
        self.assertEqual(most_pieces(chain(12)), 11)
        with self.assertRaises(errors.TooMany) as caught:
            most_pieces(chain(43))
        self.assertEqual(caught.exception.value, 40)

    def test_too_many_pairs(self):
        refused = 0
        wide = [Manual(widest_manual(seed, 4, 4, 16).manners(), ["a"], ["b", "c"]) for seed in range(6)]
        for elder in wide:
            for newer in wide:
                try:
                    least_pairs(cuts(elder), cuts(newer))
                except errors.TooMany as caught:
                    refused += 1
                    self.assertEqual(caught.value, 200)
                    with self.assertRaises(errors.TooMany) as other:
                        cuts_within(elder, newer)
                    self.assertEqual(other.exception.value, 200)
        self.assertGreater(refused, 3)

    def test_effects_mean_nothing(self):
        for manual in lone_cuts(525, 20):
            free = Manual(sorted({m[:3] + (("coins", 0),) for m in manual.manners()}), manual.beginnings(), manual.ends())
            self.assertTrue(cuts(manual) == cuts(free))
            self.assertEqual(most_pieces(manual), most_pieces(free))
            self.assertTrue(all(does(manual, book) == does(free, book) for book in books_up_to(["x", "y"], 3)))


if __name__ == "__main__":
    unittest.main()
