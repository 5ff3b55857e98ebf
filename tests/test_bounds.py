"""Points 57 to 60, against plain reckonings."""

import unittest

from tests import plain_cards as plain
from tests import plain_pairs as pairs
from tests.anything import bent, odd_objects, same
from tests.bounded_manuals import (
    dear_pair, manual_with_121_cards, pair_with_200_steps, pair_with_201_pairs, pair_with_201_steps)
from tests.drawn import books_up_to, close_pairs, drawn_manuals, drawn_pairs
from tests.plain import plain_need
from withinbooks.agains import kind_of
from withinbooks.books import need_of
from withinbooks.bounds import (
    bound_at, hardest_at, is_hardest_at, is_more_book, is_outrun, is_unserved_book, more_book, never_more, outrun,
    unserved_book)
from withinbooks.ceilings import ceiling
from withinbooks.errors import InvalidCount, InvalidManual, Refused, TooMany
from withinbooks.manuals import Manual
from withinbooks.rests import least_purse, rest_list
from withinbooks.tables import one_purse
from withinbooks.within import freed, is_escape, is_within

STAY = ("a", "x", "a", ("coins", 1))
BARE = [Manual([], [], []), Manual([], ["a"], []), Manual([STAY], ["a"], []), Manual([], ["a"], ["a"]),
        Manual([STAY], ["a"], ["a"])]
SIZE = 5


def drawn(seed, many, close):
    made = [(elder, newer) for elder in BARE for newer in BARE]
    return made[seed % 3::3] + drawn_pairs(seed, many) + close_pairs(seed, close)


def strays(seed, many):
    """Pairs, not all of them, of which the newer edition does not stay within the elder one."""
    return drawn(seed, many // 5, 9) + [pair for pair in close_pairs(seed, many, manners=4) if not is_within(*pair)]


def needs_of_both(elder, newer, size=SIZE):
    """All books of at most so many jobs that the elder edition does, shorter ones first, with their two needs."""
    books = books_up_to(plain.plain_jobs(elder), size)
    needs = [(book, need_of(elder, book), need_of(newer, book)) for book in books]
    return [row for row in needs if row[1] is not None]


def shortest(books):
    return [book for book in books if len(book) == len(books[0])]


class FoundTest(unittest.TestCase):
    def check_found(self, judge, found, rights, right):
        """A book is any one of the shortest right ones; beyond those looked at it is right, and longer than they are."""
        self.assertIs(judge(found), found is not None)
        if rights:
            self.assertIn(found, shortest(rights))
        elif found is not None:
            self.assertGreater(len(found), SIZE)
            self.assertTrue(right(found))

    def check_bent(self, judge, found, rights, others):
        for value in bent(found)[::3] + others + odd_objects()[::17]:
            if rights or found is None:
                right = any(same(value, book) for book in rights and shortest(rights))
                self.assertIs(judge(value), right, repr(value))


class UnservedTest(FoundTest):
    def test_unserved_books(self):
        found = 0
        for elder, newer in drawn(150, 40, 60):
            needs = needs_of_both(elder, newer)
            for purse, other in [(0, 0), (1, 0), (1, 2), (3, 1), (2, 5)]:
                rights = [book for book, one, two in needs if one <= purse and (two is None or two > other)]
                book = unserved_book(elder, newer, purse, other)
                found += book is not None

                def judge(value):
                    return is_unserved_book(elder, newer, purse, other, value)

                def right(value):
                    need = need_of(newer, value)
                    return need_of(elder, value) <= purse and (need is None or need > other)
                self.check_found(judge, book, rights, right)
                self.check_bent(judge, book, rights, [one for one, _, _ in needs[::7]])
        self.assertGreater(found, 70)

    def test_needs_are_plain_ones(self):
        for elder, newer in drawn(151, 10, 10):
            for book, one, two in needs_of_both(elder, newer, 4):
                self.assertEqual([one, two], [plain_need(elder, book), plain_need(newer, book)])

    def test_purses_up_to_twelve_and_forty(self):
        elder, newer = dear_pair(1)
        book = ["w"] + ["x"] * 12 + ["y"]
        self.assertEqual([need_of(elder, book), need_of(newer, book)], [12, 40])
        self.assertEqual(unserved_book(elder, newer, 12, 39), book)
        self.assertIsNone(unserved_book(elder, newer, 12, 40))
        self.assertEqual(unserved_book(*dear_pair(2), 12, 40), book)
        self.assertFalse(is_unserved_book(elder, newer, 12, 39, book[:-1]))


class BoundTest(FoundTest):
    def test_bounds(self):
        seen = {}
        for elder, newer in drawn(152, 50, 50):
            needs = needs_of_both(elder, newer)
            for purse in [0, 1, 3]:
                bound, book = bound_at(elder, newer, purse), hardest_at(elder, newer, purse)
                seen[bound] = True
                if bound is None:
                    self.assertIsNotNone(unserved_book(elder, newer, purse, 40))
                    self.assertEqual([book, is_hardest_at(elder, newer, purse, [])], [None, False])
                    continue
                self.assertIsNone(unserved_book(elder, newer, purse, bound))
                self.assertTrue(bound == 0 or unserved_book(elder, newer, purse, bound - 1) is not None)
                rights = [one for one, need, other in needs if need <= purse and other == bound]
                self.assertLessEqual(max([0] + [other for _, need, other in needs if need <= purse]), bound)
                self.assertTrue(book is not None or bound == 0)
                self.check_hardest(elder, newer, purse, bound, book, rights)
        self.assertTrue({None, 0, 1, 2, 3, 4, 5, 6} <= set(seen), seen)

    def test_books_that_leave_coins_in_other_rooms(self):
        """Of two books neither leaves less than the other one, and only one of them is followed by what is dear."""
        jobs = ["u", "x", "y"]
        elder = Manual([("e", job, "e", ("coins", 0)) for job in jobs], ["e"], ["e"])
        for one, two in [("x", "y"), ("y", "x")]:
            manners = [("s", "u", "t", ("coins", 0)), ("s", one, "a", ("coins", 3)), ("s", two, "b", ("coins", 3)),
                       ("a", "u", "t", ("coins", 3)), ("a", "x", "t", ("coins", 0)), ("a", "y", "t", ("coins", 0))]
            manners += [(room, job, "t", ("coins", 0)) for room in "bt" for job in jobs]
            newer = Manual(manners, ["s"], ["a", "b", "s", "t"])
            self.assertEqual([bound_at(elder, newer, 0), hardest_at(elder, newer, 0)], [6, [one, "u"]])

    def check_hardest(self, elder, newer, purse, bound, book, rights):
        def judge(value):
            return is_hardest_at(elder, newer, purse, value)

        def right(value):
            return need_of(elder, value) <= purse and need_of(newer, value) == bound
        self.check_found(judge, book, rights, right)
        self.check_bent(judge, book, rights, books_up_to(plain.plain_jobs(elder), 3)[::4])

    def test_a_bound_of_forty_and_one_more(self):
        book = ["w"] + ["x"] * 12 + ["y"]
        self.assertEqual([bound_at(*dear_pair(1), 12), hardest_at(*dear_pair(1), 12)], [40, book])
        self.assertTrue(is_hardest_at(*dear_pair(1), 12, book))
        self.assertEqual([bound_at(*dear_pair(2), 12), hardest_at(*dear_pair(2), 12)], [None, None])
        self.assertFalse(is_hardest_at(*dear_pair(2), 12, book))
        self.assertEqual(bound_at(*dear_pair(2), 11), 38)
        self.assertTrue(is_within(*dear_pair(2)))

    def test_no_book_is_served(self):
        lone = Manual([("a", "x", "b", ("coins", 2))], ["a"], ["b"])
        self.assertEqual([bound_at(lone, BARE[0], 1), hardest_at(lone, BARE[0], 1)], [0, None])
        self.assertFalse(is_hardest_at(lone, BARE[0], 1, ["x"]))
        self.assertEqual([bound_at(lone, BARE[0], 2), bound_at(lone, lone, 2)], [None, 2])

    def test_a_freed_elder_edition_has_the_least_purse(self):
        both = {True: 0, False: 0}
        for manual in drawn_manuals(153, 60, rooms=2):
            self.assertEqual(bound_at(freed(manual), manual, 0), least_purse(manual))
            both[one_purse(manual)] += 1
        self.assertTrue(all(many > 5 for many in both.values()))


class OutrunTest(unittest.TestCase):
    def test_outruns(self):
        sizes = {}
        for at, (elder, newer) in enumerate(strays(154, 200)):
            purse = [1, 0, 3, 2, 1][at % 5]
            steps = pairs.PlainSteps(elder, newer, purse, rest_list(elder, purse))
            listed = pairs.small_expressions(plain.plain_jobs(elder), 2)
            rights = [one for one in listed if steps.outruns(one)]
            found = outrun(elder, newer, purse)
            self.assertIs(is_outrun(elder, newer, purse, found), found is not None)
            for one in listed[::5]:
                self.assertIs(is_outrun(elder, newer, purse, one), one in rights)
            # Nothing here needs more than 40 coins where some purse serves.
            self.assertEqual(found is None, bound_at(elder, newer, purse) is not None)
            size = None if found is None else len(plain.plain_leaves(found))
            sizes[size] = sizes.get(size, 0) + 1
            if found is None:
                self.assertEqual(rights, [])
                self.check_escapes(elder, newer, purse, listed)
                continue
            self.assertTrue(steps.outruns(found) and pairs.is_plain_escape(elder, newer, found))
            self.assertLessEqual(ceiling(elder, found), purse)
            fewest = min([len(plain.plain_leaves(one)) for one in rights], default=3)
            self.assertTrue(fewest == size if size <= 2 else not rights)
        self.assertTrue({None, 0, 1, 2, 3} <= set(sizes) and sizes[None] > 20, sizes)

    def check_escapes(self, elder, newer, purse, listed):
        """Without an outrun no escape has a ceiling of at most the purse."""
        for one in listed[::3]:
            if is_escape(elder, newer, one):
                self.assertGreater(ceiling(elder, one), purse)

    def test_least_of_all_in_the_step_table(self):
        """An outrun has the step and the card of some tuple of the table; without one none there is of its kind."""
        found = 0
        for at, (elder, newer) in enumerate(strays(155, 120)):
            purse = [1, 0, 2][at % 3]
            steps = pairs.PlainSteps(elder, newer, purse, rest_list(elder, purse))
            table = steps.table()
            if len(table) > 60:
                continue
            expression = outrun(elder, newer, purse)
            goals = [one for one in table if steps.is_goal(one)]
            self.assertEqual(expression is None, not goals)
            if goals:
                found += 1
                self.assertIn(steps.of(expression), goals)
        self.assertGreater(found, 5)

    def test_bent_outruns(self):
        seen = 0
        for at, (elder, newer) in enumerate(strays(156, 100)):
            purse = [1, 0, 3, 2, 1][at % 5]
            found = outrun(elder, newer, purse)
            seen += found is not None
            steps = pairs.PlainSteps(elder, newer, purse, rest_list(elder, purse))
            for value in bent(found)[::2] + odd_objects()[::13] + [("again", "q"), ("row", ["q"]), ("again", ("place",))]:
                self.assertIs(is_outrun(elder, newer, purse, value), steps.outruns(value), repr(value))
        self.assertGreater(seen, 8)

    def test_bodies_of_agains_are_steady(self):
        """The elder edition goes to and fro, free of charge; the newer one spends in one of its rooms."""
        to, fro = ("a", "x", "b", ("coins", 0)), ("b", "x", "a", ("coins", 0))
        elder, newer = Manual([to, fro], ["a"], ["a"]), Manual([to, ("b", "x", "a", ("coins", 1))], ["a"], ["a"])
        self.assertTrue(is_escape(elder, newer, ("again", "x")))
        self.assertFalse(is_outrun(elder, newer, 0, ("again", "x")))
        self.assertFalse(is_outrun(elder, newer, 0, ("again", ("row", ["x"] * 3))))
        self.assertTrue(is_outrun(elder, newer, 0, ("again", ("row", ["x", "x"]))))
        self.assertTrue(is_outrun(elder, newer, 0, ("row", ["x", "x", ("again", ("row", ["x"] * 8)), ("row", [])])))
        self.assertFalse(is_outrun(elder, newer, 0, ("row", ["x", ("again", ("row", ["x", "x"]))])))
        self.assertFalse(is_outrun(elder, newer, 0, ("row", [("again", "x"), ("again", ("row", ["x", "x"]))])))
        self.assertFalse(is_outrun(elder, newer, 0, ("again", ("again", "x"))))
        self.assertEqual(plain.plain_leaves(outrun(elder, newer, 0)), ["x", "x"])

    def test_steps_and_cards_of_bodies_are_both_steady(self):
        """One of the editions stays where it is, the other one goes to and fro."""
        fro = [("a", "x", "b", ("coins", 0)), ("b", "x", "a", ("coins", 1))]
        free = Manual([("a", "x", "a", ("coins", 0))], ["a"], ["a"])
        turn = Manual(fro, ["a"], ["a", "b"])
        back = Manual([("a", "x", "b", ("coins", 0)), ("b", "x", "a", ("fill", 0, 0))], ["a"], ["a"])
        for elder, newer in [(free, turn), (back, BARE[4])]:
            self.assertTrue(is_escape(elder, newer, ("again", "x")))
            self.assertFalse(is_outrun(elder, newer, 0, ("again", "x")))
            self.assertTrue(is_outrun(elder, newer, 0, ("again", ("row", ["x", "x"]))))
            self.assertEqual(plain.plain_leaves(outrun(elder, newer, 0)), ["x", "x"])

    def test_jobs_of_the_elder_edition_alone(self):
        elder, newer = Manual([], ["a"], ["a"]), Manual([("b", "x", "b", ("coins", 1))], ["b"], [])
        self.assertTrue(is_outrun(elder, newer, 0, ("row", [])))
        self.assertTrue(is_outrun(elder, newer, 0, ("again", ("row", []))))
        self.assertFalse(is_outrun(elder, newer, 0, ("row", ["x"])))
        self.assertEqual(plain.plain_leaves(outrun(elder, newer, 0)), [])

    def test_two_hundred_tuples_and_one_more(self):
        for made, many in [(pair_with_200_steps(), 200), (pair_with_201_steps(), 201)]:
            elder, newer = made
            self.assertEqual(len(pairs.PlainSteps(elder, newer, 3, rest_list(elder, 3)).table()), many)
            if many == 200:
                found = outrun(elder, newer, 3)
                self.assertIs(is_outrun(elder, newer, 3, found), found is not None)
                continue
            with self.assertRaises(TooMany) as caught:
                outrun(elder, newer, 3)
            self.assertEqual(caught.exception.value, 200)
            self.assertFalse(is_outrun(elder, newer, 3, "q"))
            for value in [None, True, -1, "1"]:
                with self.assertRaises(InvalidCount) as caught:
                    outrun(elder, newer, value)
                self.assertIs(caught.exception.value, value)


class MoreTest(FoundTest):
    def test_more_books(self):
        seen = {"refused": 0, True: 0, False: 0}
        for elder, newer in drawn(157, 80, 80):
            if not one_purse(elder) and not one_purse(newer):
                seen["refused"] += 1
                self.check_refused(elder, newer)
                continue
            rights = [book for book, one, two in needs_of_both(elder, newer) if two is None or two > one]
            found = more_book(elder, newer)
            seen[found is None] += 1
            self.assertIs(never_more(elder, newer), found is None)

            def judge(value):
                return is_more_book(elder, newer, value)

            def right(value):
                need = need_of(newer, value)
                return need is None or need > need_of(elder, value)
            self.check_found(judge, found, rights, right)
            self.check_bent(judge, found, rights, books_up_to(plain.plain_jobs(elder), 3)[::3])
        self.assertTrue(all(many > 15 for many in seen.values()), seen)

    def check_refused(self, elder, newer):
        for function, more in [(never_more, []), (more_book, []), (is_more_book, [None]), (is_more_book, [[]])]:
            with self.assertRaises(Refused) as caught:
                function(elder, newer, *more)
            self.assertIs(caught.exception.value, elder)

    def test_one_of_the_two_has_one_purse(self):
        """Whichever of the two it is, it can be told; of a manual that grows alone it cannot be told of itself."""
        toll, gift = BARE[4], Manual([("a", "x", "a", ("coins", 0))], ["a"], ["a"])
        fill = Manual([("a", "x", "a", ("fill", 2, 1))], ["a"], ["a"])
        self.assertEqual([never_more(toll, gift), never_more(gift, toll), never_more(gift, gift)], [True, False, True])
        self.assertEqual([more_book(gift, toll), more_book(toll, fill), more_book(fill, toll)],
                         [["x"], ["x"], ["x"] * 4])
        self.assertTrue(is_more_book(fill, toll, ["x"] * 4))
        self.assertFalse(is_more_book(fill, toll, ["x"] * 5))
        self.check_refused(toll, toll)

    def test_other_errors_come_ahead_of_refused(self):
        toll = BARE[4]
        for value in [None, [toll], "a"]:
            for function, more in [(never_more, []), (more_book, []), (is_more_book, [None])]:
                with self.assertRaises(InvalidManual) as caught:
                    function(toll, value, *more)
                self.assertIs(caught.exception.value, value)

    def test_there_are_never_too_many_cards(self):
        many = manual_with_121_cards()
        self.assertIs(never_more(Manual([], [], []), many), True)
        elder, newer = pair_with_201_pairs()
        self.check_refused(elder, newer)
        self.assertEqual(more_book(elder, BARE[0]), shortest([book for book, _, _ in needs_of_both(elder, BARE[0])])[0])

    def test_what_covers_needs_no_more(self):
        same_manual = Manual([("a", "x", "a", ("fill", 1, 2))], ["a"], ["a"])
        self.assertTrue(never_more(same_manual, same_manual))
        self.assertTrue(never_more(BARE[0], BARE[4]) and never_more(BARE[3], BARE[4]))
        self.assertEqual(more_book(BARE[3], BARE[0]), [])

    def test_kinds(self):
        self.assertEqual([kind_of(BARE[4], "x"), kind_of(BARE[4], ("again", "x"))], ["bounded", "grows"])


if __name__ == "__main__":
    unittest.main()
