"""Points 54 to 56, against plain reckonings."""

import unittest

from tests import plain_cards as plain
from tests import plain_pairs as pairs
from tests.anything import bent, odd_objects
from tests.bounded_manuals import manual_with_120_cards, manual_with_121_cards, pair_with_200_pairs, pair_with_201_pairs
from tests.drawn import close_pairs, drawn_manuals, drawn_pairs
from withinbooks.agains import kind_of, written, written_size
from withinbooks.books import need_of
from withinbooks.bounds import bound_at
from withinbooks.ceilings import ceiling
from withinbooks.doing import do_alike, missed
from withinbooks.errors import InvalidManuals, TooMany
from withinbooks.manuals import Manual, is_covered
from withinbooks.tables import one_purse
from withinbooks.within import (
    are_alike, bad_pairs, escape, escape_size, freed, is_escape, is_pair_table, is_within, least_pairs, within_along)

STAY = ("a", "x", "a", ("coins", 1))
BARE = [Manual([], [], []), Manual([], ["a"], []), Manual([STAY], ["a"], []), Manual([], ["a"], ["a"]),
        Manual([STAY], ["a"], ["a"])]


def drawn(seed, many):
    made = [(elder, newer) for elder in BARE for newer in BARE]
    return made[seed % 3::3] + drawn_pairs(seed, many)


class PairsTest(unittest.TestCase):
    def test_least_pairs(self):
        both = {True: 0, False: 0}
        for elder, newer in drawn(130, 80) + close_pairs(130, 20):
            table = least_pairs(elder, newer)
            self.assertEqual(table, pairs.plain_pairs(elder, newer))
            self.assertIs(is_pair_table(elder, newer, table), True)
            bad = [pair for pair in table if pairs.is_plain_bad(elder, newer, pair)]
            self.assertEqual(bad_pairs(elder, newer), bad)
            self.assertIs(is_within(elder, newer), not bad)
            both[not bad] += 1
        self.assertTrue(all(many > 20 for many in both.values()))

    def test_bent_pair_tables(self):
        seen = 0
        for elder, newer in drawn(131, 40):
            table = least_pairs(elder, newer)
            if len(table) > 8:
                continue
            seen += 1
            for value in bent(table)[::5] + odd_objects()[::9] + [table[:-1], table[1:], table[::-1], table + table[-1:]]:
                right = pairs.is_plain_pair_table(elder, newer, value)
                self.assertIs(is_pair_table(elder, newer, value), right, repr(value))
        self.assertGreater(seen, 20)

    def test_one_pair_more_or_less(self):
        larger = 0
        for elder, newer in drawn_pairs(132, 40, rooms=1, jobs=1, manners=2):
            table = least_pairs(elder, newer)
            sizes = [len(table[0][0]), len(table[0][1])]
            cards = [[((mark,),) for mark in plain.MARKS] if size == 1 else [()] for size in sizes]
            if max(sizes) > 1:
                continue
            for pair in [(one, other) for one in cards[0] for other in cards[1]]:
                value = sorted(set(table + [pair]))
                right = pairs.is_plain_pair_table(elder, newer, value)
                self.assertIs(is_pair_table(elder, newer, value), right)
                larger += right and len(value) > len(table)
                less = [one for one in table if one != pair]
                self.assertIs(is_pair_table(elder, newer, less), pairs.is_plain_pair_table(elder, newer, less))
        self.assertGreater(larger, 20)

    def test_the_agains_of_steady_pairs_alone_are_asked_for(self):
        """A pair is steady if both its cards are."""
        lone = Manual([], ["a", "b"], [])
        first, unsteady = (("free", "never"), ("never", "free")), (("never", "some"), ("never", "never"))
        stays, many = (("some", "never"), ("never", "never")), (("many", "never"), ("never", "never"))
        for pair in [(first, unsteady), (unsteady, first), (unsteady, stays), (unsteady, unsteady)]:
            self.assertTrue(is_pair_table(lone, lone, sorted([(first, first), pair])))
        self.assertFalse(is_pair_table(lone, lone, sorted([(first, first), (first, stays)])))
        self.assertTrue(is_pair_table(lone, lone, sorted([(first, first), (first, stays), (first, many)])))

    def test_jobs_of_either_edition_stand_in_a_table(self):
        one, other = Manual([STAY], ["a"], ["a"]), Manual([("a", "y", "a", ("fill", 0, 0))], ["a"], ["a"])
        never = (("never",),)
        self.assertIn(((("some",),), never), least_pairs(one, other))
        self.assertIn((never, (("full",),)), least_pairs(one, other))

    def test_purses_tell_it(self):
        """If it stays within, each purse has a bound; if not, the writings of an escape have none."""
        for elder, newer in drawn(133, 60) + close_pairs(133, 40):
            if is_within(elder, newer):
                for purse in range(4):
                    self.assertIsNotNone(bound_at(elder, newer, purse))
                self.assertIsNone(missed(elder, newer))
                continue
            found = escape(elder, newer)
            self.assertIsNotNone(ceiling(elder, found))
            for number in range(3):
                if written_size([elder, newer], found, number) <= 400:
                    book = written([elder, newer], found, number)
                    need = need_of(newer, book)
                    self.assertTrue(need is None or need > number)
                    self.assertIsNotNone(need_of(elder, book))

    def test_what_is_covered_stays_within(self):
        covered = [(elder, newer) for elder, newer in drawn(134, 150) if is_covered(elder, newer)]
        self.assertGreater(len(covered), 30)
        self.assertTrue(all(is_within(elder, newer) for elder, newer in covered))


class EscapesTest(unittest.TestCase):
    def test_escapes(self):
        sizes = {}
        for at, (elder, newer) in enumerate(drawn(135, 40) + close_pairs(135, 200)):
            most = 3 if at % 40 == 0 else 2
            listed = pairs.small_expressions(plain.plain_jobs(elder), most)
            rights = [one for one in listed if pairs.is_plain_escape(elder, newer, one)]
            found, size = escape(elder, newer), escape_size(elder, newer)
            sizes[size] = sizes.get(size, 0) + 1
            self.assertEqual(found is None, is_within(elder, newer))
            self.assertIs(is_escape(elder, newer, found), found is not None)
            if found is None:
                self.assertEqual([size, rights], [None, []])
                continue
            self.assertTrue(pairs.is_plain_escape(elder, newer, found))
            self.assertEqual(len(plain.plain_leaves(found)), size)
            fewest = min([len(plain.plain_leaves(one)) for one in rights], default=most + 1)
            self.assertTrue(fewest == size if size <= most else not rights)
            for one in listed[::7]:
                self.assertIs(is_escape(elder, newer, one), one in rights)
        self.assertTrue({None, 0, 1, 2, 3} <= set(sizes) and sizes[2] > 5, sizes)

    def test_bent_escapes(self):
        for elder, newer in drawn(136, 30) + close_pairs(136, 30):
            for value in bent(escape(elder, newer)) + odd_objects()[::9] + [("again", "q"), ("again", ("place",))]:
                self.assertIs(is_escape(elder, newer, value), pairs.is_plain_escape(elder, newer, value), repr(value))

    def test_an_escape_of_any_nesting_and_number_of_jobs(self):
        carry, rest = ("in", "carry", "in", ("coins", 1)), ("in", "rest", "in", ("fill", 0, 0))
        early = Manual([carry, rest], ["in"], ["in"])
        late = Manual([carry, ("in", "rest", "in", ("coins", 0))], ["in"], ["in"])
        deep = "carry"
        for _ in range(29):
            deep = ("row", [deep])
        for value in [("again", ("row", ["carry", "rest"] * 40)), ("again", ("row", [deep, "rest", ("again", "rest")])),
                      ("row", [("again", ("again", ("row", ["rest", "carry"]))), "carry"])]:
            self.assertTrue(is_escape(early, late, value))
        self.assertFalse(is_escape(early, late, ("row", ["carry", "rest"])))
        self.assertFalse(is_escape(late, early, ("again", ("row", ["carry", "rest"]))))


class AlikeTest(unittest.TestCase):
    def test_are_alike(self):
        seen = {}
        for one, other in drawn(137, 90):
            alike = are_alike(one, other)
            seen[alike] = seen.get(alike, 0) + 1
            self.assertIs(alike, is_within(one, other) and is_within(other, one))
            self.assertIs(are_alike(other, one), alike)
            self.assertTrue(are_alike(one, one))
            self.assertTrue(do_alike(one, other) or not alike)
        self.assertTrue(seen[True] > 5 and seen[False] > 20)

    def test_freed(self):
        for manual in drawn_manuals(138, 120, rooms=2):
            free = freed(manual)
            self.assertEqual(free.manners(), sorted({manner[:3] + (("coins", 0),) for manner in manual.manners()}))
            self.assertEqual([free.beginnings(), free.ends()], [manual.beginnings(), manual.ends()])
            self.assertTrue(do_alike(manual, free))
            self.assertIs(is_within(free, manual), one_purse(manual))

    def test_within_along(self):
        draws = drawn_manuals(139, 60, rooms=2, manners=4)
        for at in range(len(draws) - 3):
            editions = draws[at:at + 1 + at % 4]
            right = all(pairs.is_plain_within(editions[0], newer) for newer in editions[1:])
            self.assertIs(within_along(editions), right)
        self.assertTrue(within_along([draws[-1]] * 3))
        early, late, heavy = [Manual([STAY, ("a", "y", "a", effect)], ["a"], ["a"])
                              for effect in [("fill", 0, 0), ("coins", 0), ("fill", 3, 3)]]
        self.assertEqual([within_along([late, early, heavy]), within_along([early, heavy, late]), within_along([late])],
                         [True, False, True])

    def test_no_manuals(self):
        for value in [[], (), None, [None], (BARE[0],), [BARE[0], None], [BARE[0], BARE[1], 1], {"a": BARE[0]}]:
            with self.assertRaises(InvalidManuals) as caught:
                within_along(value)
            self.assertIs(caught.exception.value, value)


class TooManyTest(unittest.TestCase):
    def asked(self, elder, newer):
        functions = [least_pairs, bad_pairs, is_within, escape, escape_size, are_alike]
        return [(function, [elder, newer]) for function in functions] + [(within_along, [[elder, newer]])]

    def test_two_hundred_pairs(self):
        elder, newer = pair_with_200_pairs()
        table = least_pairs(elder, newer)
        self.assertEqual(table, pairs.plain_pairs(elder, newer))
        self.assertEqual(len(table), 200)
        for function, arguments in self.asked(elder, newer) + self.asked(newer, elder):
            function(*arguments)
        self.assertIs(is_escape(elder, newer, escape(elder, newer)), not is_within(elder, newer))

    def test_one_pair_more(self):
        elder, newer = pair_with_201_pairs()
        table = pairs.plain_pairs(elder, newer)
        self.assertEqual(len(table), 201)
        small = BARE[4]
        asked = self.asked(elder, newer) + self.asked(newer, elder)
        for function, arguments in asked + [(within_along, [[elder, small, newer]]), (within_along, [[elder, newer, small]])]:
            with self.assertRaises(TooMany) as caught:
                function(*arguments)
            self.assertEqual(caught.exception.value, 200)
        self.assertTrue(is_pair_table(elder, newer, table))
        self.assertFalse(is_pair_table(elder, newer, table[:100] + table[101:]))
        self.assertEqual([is_escape(elder, newer, "q"), is_escape(elder, newer, None)], [False, False])
        self.assertEqual(freed(elder).ends(), elder.ends())

    def test_pairs_of_others_than_the_first_are_not_counted(self):
        elder, newer = pair_with_201_pairs()
        small = Manual([], [], [])
        self.assertEqual(within_along([small, elder, newer]), True)
        large = manual_with_120_cards()
        self.assertEqual(len(plain.plain_table(large)), 120)
        self.assertIs(within_along([large]), True)
        self.assertIs(within_along([manual_with_121_cards()]), True)

    def test_too_many_comes_ahead_of_what_does_not_stay_within(self):
        """The second manual strays, the third one has too many pairs."""
        elder, newer = pair_with_201_pairs()
        stray = Manual([], [], [])
        self.assertFalse(within_along([elder, stray]))
        with self.assertRaises(TooMany):
            within_along([elder, stray, newer])


class KindsTest(unittest.TestCase):
    def test_what_an_escape_is(self):
        """Bounded in the elder edition, and growing or never done in the newer one."""
        for elder, newer in drawn(140, 30):
            for one in pairs.small_expressions(plain.plain_jobs(elder), 2):
                kinds = [kind_of(elder, one), kind_of(newer, one)]
                self.assertIs(is_escape(elder, newer, one), kinds[0] == "bounded" and kinds[1] != "bounded")


if __name__ == "__main__":
    unittest.main()
