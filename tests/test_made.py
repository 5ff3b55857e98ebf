"""Points 85 to 90, and the head of section 13, against plain reckonings."""

import itertools
import unittest

from tests import plain_cutting as plain
from tests.drawn import books_up_to, close_pairs, drawn_manuals, drawn_pairs, widest_manual
from tests.plain import plain_need, plain_rooms
from withinbooks import errors
from withinbooks.books import is_least_way, is_paper, least_way, need_of, paper_of
from withinbooks.bounds import bound_at
from withinbooks.doing import do_alike, does, missed
from withinbooks.errors import TooMany
from withinbooks.made import begun, either_of, followed_by, limited_to, mirrored, repeated, unlike_book
from withinbooks.manuals import Manual, jobs_of
from withinbooks.within import is_within

STAY = ("a", "x", "a", ("coins", 1))
BARE = [Manual([], [], []), Manual([], ["a"], ["a"]), Manual([STAY], [], ["a"]), Manual([STAY], ["a"], []),
        Manual([("b", "y", "b", ("coins", 2))], ["b"], ["b"]), Manual([STAY], ["a"], ["a"])]


def leaves_full(manual):
    last = [manner[3] for manner in manual.manners() if manner[2] in manual.ends()]
    return all(effect[0] == "coins" or effect[2] == 0 for effect in last)


def made_full(manual):
    """The manual with nothing spent behind the fills of what leads to an end."""
    manners = {m[:3] + (m[3][:2] + (0,),) if m[3][0] == "fill" and m[2] in manual.ends() else m
               for m in manual.manners()}
    return Manual(sorted(manners), manual.beginnings(), manual.ends())


def drawn(seed, many):
    pairs = [(one, other) for one in BARE for other in BARE] + drawn_pairs(seed, many, rooms=2, jobs=2, manners=5)
    return pairs + [(widest_manual(one, 2, 2, 5, 0.5), widest_manual(one + 1, 2, 2, 5, 0.5)) for one in range(seed, seed + 8)]


class MadeTest(unittest.TestCase):
    def compare(self, made, jobs, size, need):
        told = 0
        for book in books_up_to(jobs + ["none"], size):
            found = need_of(made, book)
            self.assertEqual(found, need(book), book)
            told += found is not None
        return told

    def test_either_of(self):
        told = 0
        for one, other in drawn(400, 30):
            made = either_of(one, other)
            self.assertLessEqual(len(plain_rooms(made)), len(plain_rooms(one)) + len(plain_rooms(other)))
            told += self.compare(made, plain.all_jobs_of(one, other), 3, lambda book: plain.least_of(
                [plain_need(one, book), plain_need(other, book)]))
        self.assertGreater(told, 200)

    def test_followed_by(self):
        told = 0
        for one, other in drawn(401, 40):
            one = made_full(one)
            made = followed_by(one, other)
            self.assertLessEqual(len(plain_rooms(made)), len(plain_rooms(one)) + len(plain_rooms(other)))
            jobs = plain.all_jobs_of(one, other)
            told += self.compare(made, jobs, 3, lambda book: plain.plain_followed_by(one, other, book))
        self.assertGreater(told, 200)

    def test_repeated(self):
        told = 0
        for one in BARE + [one for one, _ in drawn(402, 50)]:
            one = made_full(one)
            made = repeated(one)
            self.assertLessEqual(len(plain_rooms(made)), len(plain_rooms(one)) + 1)
            told += self.compare(made, jobs_of(one), 4, lambda book: plain.plain_repeated(one, book))
        self.assertGreater(told, 200)

    def test_begun_and_mirrored(self):
        told = 0
        for one in BARE + drawn_manuals(403, 60):
            self.assertLessEqual(len(plain_rooms(begun(one))), len(plain_rooms(one)))
            self.assertEqual(len(plain_rooms(mirrored(one))), len(plain_rooms(one)))
            told += self.compare(begun(one), jobs_of(one), 3, lambda book: plain.plain_begun(one, book))
            told += self.compare(mirrored(one), jobs_of(one), 3, lambda book: plain_need(one, book[::-1]))
        self.assertGreater(told, 250)

    def test_limited_to(self):
        told = 0
        for one, other in drawn(404, 40):
            made = limited_to(one, other)
            self.assertLessEqual(len(plain_rooms(made)), len(plain_rooms(one)) * len(plain_rooms(other)))
            told += self.compare(made, plain.all_jobs_of(one, other), 3,
                                 lambda book: plain.plain_limited(one, other, book))
        self.assertGreater(told, 100)

    def test_what_does_not_leave_its_books_full(self):
        full, open_fill = ("a", "x", "a", ("fill", 3, 0)), ("a", "x", "a", ("fill", 0, 1))
        inner = ("b", "x", "c", ("fill", 0, 3))
        kept = Manual([full, inner, STAY], ["a"], ["a"])
        for manual in [Manual([open_fill], ["a"], ["a"]), Manual([inner], ["a"], ["a", "c"]), Manual([inner], [], ["c"])]:
            for function, passed in [(repeated, [manual]), (followed_by, [manual, kept]), (followed_by, [manual, None])]:
                with self.assertRaises(errors.InvalidManual) as caught:
                    function(*passed)
                self.assertIs(caught.exception.value, manual)
            followed_by(kept, manual)
        repeated(kept)

    def test_unlike_book(self):
        sizes = {}
        for one, other in drawn(405, 60) + close_pairs(405, 60):
            books = [book for book in books_up_to(plain.all_jobs_of(one, other), 3)]
            unlike = [book for book in books if plain_need(one, book) != plain_need(other, book)]
            for most in range(4):
                first = [book for book in unlike if len(book) <= most][:1]
                self.assertEqual(unlike_book(one, other, most), first[0] if first else None)
            size = len(unlike[0]) if unlike else None
            sizes[size] = sizes.get(size, 0) + 1
            self.assertIsNone(unlike_book(one, one, 4))
        self.assertTrue(len(sizes) >= 4, sizes)
        for wrong in [5, -1, True, None]:
            self.assertRaises(errors.InvalidCount, unlike_book, one, other, wrong)

    def test_unlike_only_in_four_jobs(self):
        names = ["a", "b", "c", "d", "e"]
        ways = [[(one, "x", two, ("coins", last if two == "e" else 3)) for one, two in zip(names, names[1:])]
                for last in [2, 3]]
        one, other = [Manual(manners, ["a"], ["e"]) for manners in ways]
        self.assertEqual([unlike_book(one, other, 3), unlike_book(one, other, 4)], [None, ["x"] * 4])


class MadeAgainTest(unittest.TestCase):
    """Made manuals handed in again, and what the head of the section says of two editions."""

    def made(self, one, other):
        found = [either_of(one, other), limited_to(one, other), begun(one), mirrored(one)]
        if leaves_full(one):
            found += [followed_by(one, other), repeated(one)]
        return found

    def test_in_sections_4_and_5(self):
        for one, other in drawn(410, 12)[::4]:
            for made in self.made(one, other):
                for book in books_up_to(jobs_of(made), 3)[::3] + [(jobs_of(made) or ["x"]) * 9]:
                    need, way = need_of(made, book), least_way(made, book)
                    self.assertEqual(need is None, not does(made, book))
                    self.assertEqual(is_least_way(made, book, way), need is not None)
                    paper = paper_of(made, book, 2)
                    self.assertEqual(paper is None, need is not None and need <= 2)
                    self.assertTrue(paper is None or is_paper(made, book, 2, paper))

    def test_in_one_another(self):
        for one, other in drawn(411, 10)[::5]:
            one = made_full(one)
            twice = either_of(one, one)
            self.assertIsNone(unlike_book(twice, one, 4))
            self.assertIsNone(unlike_book(mirrored(mirrored(one)), one, 4))
            self.assertIsNone(unlike_book(begun(begun(one)), begun(one), 4))
            self.assertTrue(do_alike(limited_to(one, one), one))
            self.assertIsNone(unlike_book(limited_to(one, one), one, 4))
            self.assertIsNone(unlike_book(repeated(made_full(repeated(one))), repeated(one), 3))
            self.assertIsNone(unlike_book(either_of(one, other), either_of(other, one), 4))

    def builders(self, third):
        """Functions that make a manual of an edition in one way, with the same other manual."""
        full = made_full(third)
        return {"either": lambda one: either_of(one, third), "or": lambda one: either_of(third, one),
                "behind": lambda one: followed_by(full, one), "ahead": lambda one: followed_by(one, third),
                "again": repeated, "begun": begun, "mirrored": mirrored, "limited": lambda one: limited_to(one, third),
                "limit": lambda one: limited_to(third, one)}

    def test_editions_that_stay_within(self):
        within = {}
        thirds = [Manual([("a", "x", "a", ("coins", 2))], ["a"], ["a"]), Manual([("a", "y", "a", ("fill", 1, 0))], ["a"], ["a"])]
        for at, (elder, newer) in enumerate(close_pairs(412, 60) + drawn_pairs(412, 60, rooms=2, jobs=2, manners=4)):
            elder, newer = made_full(elder), made_full(newer)
            if not is_within(elder, newer):
                continue
            for name, build in self.builders(thirds[at % 2]).items():
                one, two = build(elder), build(newer)
                try:
                    self.assertTrue(is_within(one, two), name)
                except TooMany:
                    continue
                within[name] = within.get(name, 0) + 1
                self.assertTrue(missed(one, two) is None)
                if name in ["begun", "limit"]:
                    continue
                for purse in range(3):
                    bound, made_bound = bound_at(elder, newer, purse), bound_at(one, two, purse)
                    self.assertLessEqual(made_bound, max(bound, purse), name)
        self.assertTrue(len(within) == 9 and min(within.values()) > 20, within)

    def test_books_of_three_manuals(self):
        """The greater of both purses is enough in the made manual, for all short books."""
        for elder, newer in close_pairs(413, 25):
            elder, newer = made_full(elder), made_full(newer)
            for build in [either_of, followed_by]:
                third = Manual([("b", "x", "b", ("coins", 1))], ["b"], ["b"])
                one, two = build(elder, third), build(newer, third)
                for purse, book in itertools.product(range(3), books_up_to(["x", "y"], 3)):
                    bound = bound_at(elder, newer, purse)
                    need, other = need_of(one, book), need_of(two, book)
                    if bound is not None and need is not None and need <= purse:
                        self.assertLessEqual(other, max(purse, bound))


if __name__ == "__main__":
    unittest.main()
