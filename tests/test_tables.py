"""Points 40 to 44, against plain reckonings."""

import itertools
import unittest

from tests import plain_cards as plain
from tests.anything import bent, odd_objects
from tests.bounded_manuals import manual_with_120_cards, manual_with_121_cards
from tests.drawn import books_up_to, drawn_manuals
from withinbooks.agains import expression_card, kind_of, nesting, shows_growth, written_size
from withinbooks.books import need_of
from withinbooks.cards import is_card, value_of
from withinbooks.errors import InvalidCard, InvalidManual, TooMany
from withinbooks.manuals import Manual
from withinbooks.tables import (
    calm_table, expression_for, growing, growth_nesting, is_calm_table, is_expression_for, is_growing, is_table,
    least_table, one_purse, table_growth)

DEEP = Manual([("p", "a", "p", ("coins", 0)), ("q", "a", "q", ("coins", 1)), ("p", "b", "p", ("coins", 1)),
               ("p", "b", "q", ("coins", 0)), ("q", "b", "p", ("fill", 0, 0))], ["p"], ["p"])
BARE = [Manual([], [], []), Manual([], ["a"], []), Manual([], [], ["a"]), Manual([], ["a"], ["a", "b"])]


def drawn(seed, many):
    """Manuals with few cards: of two rooms, or of three with few manners."""
    made = drawn_manuals(seed, many, rooms=2, jobs=2, manners=6, fills=0.3)
    made += drawn_manuals(seed + 1, many // 3, rooms=3, jobs=2, manners=4, fills=0.3)
    return made + BARE


def all_small_expressions(jobs, size):
    return [one for many in range(size + 1) for one in plain.plain_expressions(jobs, many, 2)]


class TablesTest(unittest.TestCase):
    def test_least_tables(self):
        for manual in drawn(90, 90):
            table = least_table(manual)
            self.assertEqual(table, plain.plain_table(manual))
            self.assertIs(is_table(manual, table), True)
            calm = not any(plain.plain_value(manual, card) == "many" for card in table)
            self.assertIs(one_purse(manual), calm)
            self.assertIs(is_calm_table(manual, table), calm)
            found = calm_table(manual)
            self.assertEqual(found is None, not calm)
            self.assertIs(is_calm_table(manual, found), calm)

    def test_the_least_table_has_the_cards_of_all_expressions(self):
        for manual in drawn(92, 40):
            table = least_table(manual)
            cards = [expression_card(manual, one) for one in all_small_expressions(plain.plain_jobs(manual), 3)]
            self.assertTrue(all(card in table for card in cards))

    def test_bent_tables(self):
        seen = 0
        for manual in drawn(94, 16):
            table = least_table(manual)
            if len(table) > 12:
                continue
            seen += 1
            for value in bent(table)[::3] + odd_objects()[::5] + [table[:-1], table[1:], table[::-1], table + table[-1:]]:
                right = plain.is_plain_table(manual, value)
                self.assertIs(is_table(manual, value), right, repr(value))
                calm = right and not any(plain.plain_value(manual, card) == "many" for card in value)
                self.assertIs(is_calm_table(manual, value), calm, repr(value))
        self.assertGreater(seen, 10)

    def test_one_card_more_or_less(self):
        """Tables with cards that no expression has are tables, too, if they are closed."""
        larger = 0
        for manual in drawn_manuals(95, 40, rooms=1, jobs=1, manners=2) + drawn_manuals(96, 30, rooms=2, jobs=1, manners=2):
            table = least_table(manual)
            size = 2 if len(table[0]) == 2 else len(table[0])
            rows = list(itertools.product(plain.MARKS, repeat=size))
            for card in list(itertools.product(rows, repeat=size))[::7]:
                value = sorted(set(table + [card]))
                right = plain.is_plain_table(manual, value)
                self.assertIs(is_table(manual, value), right)
                larger += right and len(value) > len(table)
                less = [one for one in table if one != card]
                self.assertIs(is_table(manual, less), plain.is_plain_table(manual, less))
        self.assertGreater(larger, 20)

    def test_the_agains_of_steady_cards_alone_are_asked_for(self):
        """The card of the list that is not steady would need one more card if its again were asked for."""
        turn = Manual([("a", "x", "b", ("coins", 0)), ("b", "x", "a", ("coins", 1))], ["a"], ["a"])
        for card in itertools.product(itertools.product(plain.MARKS, repeat=2), repeat=2):
            value = sorted(set(least_table(turn) + [card]))
            self.assertIs(is_table(turn, value), plain.is_plain_table(turn, value))
        lone = Manual([], ["a", "b"], [])
        unsteady = (("never", "some"), ("never", "never"))
        self.assertTrue(is_card(lone, unsteady))
        self.assertTrue(is_table(lone, [(("free", "never"), ("never", "free")), unsteady]))
        stays = (("some", "never"), ("never", "never"))
        self.assertFalse(is_table(lone, [(("free", "never"), ("never", "free")), stays]))
        many = (("many", "never"), ("never", "never"))
        self.assertTrue(is_table(lone, [(("free", "never"), ("never", "free")), many, stays]))

    def test_bare_manuals(self):
        self.assertEqual([least_table(manual) for manual in BARE[:3]], [[()], [(("free",),)], [(("free",),)]])
        for manual in BARE:
            told = [one_purse(manual), growing(manual), growth_nesting(manual), table_growth(manual)]
            self.assertEqual(told, [True, None, None, [1]])
            self.assertEqual(calm_table(manual), least_table(manual))
            self.assertFalse(is_growing(manual, ("row", [])))
            self.assertIs(is_table(manual, []), False)


class OnePurseTest(unittest.TestCase):
    def test_written_books_tell_it(self):
        """Without one purse the needs of what grows rise above each number; with one they stay below a bound."""
        both = {True: 0, False: 0}
        for manual in drawn(97, 60):
            one = one_purse(manual)
            both[one] += 1
            if one:
                needs = [need_of(manual, book) for book in books_up_to(plain.plain_jobs(manual), 7)]
                self.assertLessEqual(max([0] + [need for need in needs if need is not None]), 21)
                for expression in all_small_expressions(plain.plain_jobs(manual), 2):
                    self.assertNotEqual(kind_of(manual, expression), "grows")
            else:
                for number in range(4):
                    if written_size([manual], growing(manual), number) <= 400:
                        self.assertTrue(shows_growth(manual, growing(manual), number)[1])
        self.assertTrue(all(many > 15 for many in both.values()))


class CheapestTest(unittest.TestCase):
    def check_cheapest(self, manual, numbers, found, judge):
        """An expression of the least nesting, and then with the fewest jobs, of those for which judge is right."""
        rights = [one for one in numbers if judge(one)]
        depth, size = nesting(found), len(plain.plain_leaves(found))
        self.assertTrue(judge(found))
        self.assertEqual([plain.plain_nesting(found), set(plain.plain_leaves(found)) <= set(plain.plain_jobs(manual))],
                         [depth, True])
        # Among those looked at all with at most 3 jobs and at most 2 agains one within the other are.
        least = min([plain.plain_nesting(one) for one in rights], default=depth)
        if depth <= 2 and size <= 3:
            self.assertEqual(least, depth)
            fewest = [len(plain.plain_leaves(one)) for one in rights if plain.plain_nesting(one) == depth]
            self.assertEqual(min(fewest), size)
        else:
            self.assertTrue(least >= depth)
            self.assertFalse([one for one in rights if plain.plain_nesting(one) == depth])

    def test_growing(self):
        found = 0
        for manual in drawn(100, 80):
            listed = all_small_expressions(plain.plain_jobs(manual), 3)
            expression = growing(manual)
            self.assertEqual(expression is None, one_purse(manual))
            self.assertIs(is_growing(manual, expression), expression is not None)
            if expression is None:
                self.assertFalse(any(plain.plain_kind(manual, one) == "grows" for one in listed))
                self.assertIsNone(growth_nesting(manual))
                continue
            found += 1
            self.assertEqual(growth_nesting(manual), nesting(expression))
            self.check_cheapest(manual, listed, expression, lambda one: plain.plain_kind(manual, one) == "grows")
            for one in listed[::3]:
                right = plain.plain_kind(manual, one) == "grows" and plain.plain_nesting(one) == nesting(expression)
                self.assertIs(is_growing(manual, one), right)
        self.assertGreater(found, 15)

    def test_bent_growing(self):
        for manual in drawn(102, 12) + [DEEP]:
            depth = growth_nesting(manual)
            for value in bent(growing(manual)) + odd_objects()[::3] + [("row", ["x", "q"]), ("again", ("place",))]:
                right = False
                if plain.is_plain_expression(value) and set(plain.plain_leaves(value)) <= set(plain.plain_jobs(manual)):
                    right = plain.plain_kind(manual, value) == "grows" and plain.plain_nesting(value) == depth
                self.assertIs(is_growing(manual, value), right, repr(value))

    def test_growing_of_many_jobs_and_of_more_nesting(self):
        inner = ("again", "a")
        self.assertTrue(is_growing(DEEP, ("row", ["a", ("again", ("row", [inner, inner, "b"])), ("row", [])])))
        self.assertFalse(is_growing(DEEP, ("again", ("again", ("row", [inner, "b"])))))
        self.assertFalse(is_growing(DEEP, ("again", ("row", [inner, "b", "c"]))))
        self.assertEqual(len(plain.plain_leaves(growing(DEEP))), 2)

    def test_expressions_for_cards(self):
        for manual in drawn(103, 24):
            listed = all_small_expressions(plain.plain_jobs(manual), 3)
            cards = [plain.plain_expression_card(manual, one) for one in listed]
            for card in least_table(manual):
                found = expression_for(manual, card)
                self.assertTrue(is_expression_for(manual, card, found))
                rights = [one for one, held in zip(listed, cards) if held == card]
                self.check_cheapest(manual, rights, found, lambda one: plain.plain_expression_card(manual, one) == card)
                for one, held in list(zip(listed, cards))[::17]:
                    right = held == card and plain.plain_nesting(one) == nesting(found)
                    self.assertIs(is_expression_for(manual, card, one), right)

    def test_bent_expressions_for_cards(self):
        for manual in drawn(105, 8) + [DEEP]:
            for card in least_table(manual)[::3]:
                found = expression_for(manual, card)
                depth = nesting(found)
                for value in bent(found)[::2] + odd_objects()[::9]:
                    right = False
                    if plain.is_plain_expression(value) and set(plain.plain_leaves(value)) <= set(plain.plain_jobs(manual)):
                        right = plain.plain_expression_card(manual, value) == card and plain.plain_nesting(value) == depth
                    self.assertIs(is_expression_for(manual, card, value), right, repr(value))

    def test_table_growth(self):
        lengths = {}
        for manual in drawn(106, 60) + [DEEP]:
            told = table_growth(manual)
            self.assertEqual(told[-1], len(least_table(manual)))
            self.assertEqual(told, sorted(set(told)))
            depths = [nesting(expression_for(manual, card)) for card in least_table(manual)]
            counts = [len([depth for depth in depths if depth <= most]) for most in range(max(depths) + 1)]
            self.assertEqual(told, counts)
            books = [tuple(book) for book in books_up_to(plain.plain_jobs(manual), 6)]
            flat = {plain.plain_expression_card(manual, ("row", list(book))) for book in books if len(book) < 5}
            self.assertLessEqual(len(flat), told[0])
            lengths[len(told)] = True
        self.assertTrue({1, 2, 3} <= set(lengths))


class RefusalTest(unittest.TestCase):
    def test_cards_that_do_not_stand_in_the_least_table(self):
        card = (("never", "never"), ("never", "never"))
        self.assertNotIn(card, least_table(DEEP))
        self.assertTrue(is_card(DEEP, card))
        for function, more in [(expression_for, []), (is_expression_for, ["a"])]:
            with self.assertRaises(InvalidCard) as caught:
                function(DEEP, card, *more)
            self.assertIs(caught.exception.value, card)

    def asked(self, manual, card):
        """All functions of the section that may have too many cards."""
        return [(least_table, [manual]), (one_purse, [manual]), (calm_table, [manual]), (growing, [manual]),
                (is_growing, [manual, None]), (growth_nesting, [manual]), (expression_for, [manual, card]),
                (is_expression_for, [manual, card, None]), (table_growth, [manual])]

    def test_a_hundred_and_twenty_cards(self):
        manual = manual_with_120_cards()
        table = least_table(manual)
        self.assertEqual([len(table), table_growth(manual)[-1]], [120, 120])
        self.assertEqual(table, plain.plain_table(manual))
        for function, arguments in self.asked(manual, table[60]):
            function(*arguments)
        self.assertTrue(is_growing(manual, growing(manual)))
        for card in table[::10]:
            self.assertTrue(is_expression_for(manual, card, expression_for(manual, card)))

    def test_one_card_more(self):
        manual = manual_with_121_cards()
        table = plain.plain_table(manual)
        self.assertEqual(len(table), 121)
        for card in [table[60], (("full",) * 3,) * 3]:
            self.assertIs(is_card(manual, card), True)
            for function, arguments in self.asked(manual, card):
                with self.assertRaises(TooMany) as caught:
                    function(*arguments)
                self.assertEqual(caught.exception.value, 120, function.__name__)
        self.assertTrue(is_table(manual, table))
        self.assertFalse(is_table(manual, table[:-1]))
        self.assertIs(is_calm_table(manual, table), not any(value_of(manual, card) == "many" for card in table))

    def test_other_errors_come_ahead_of_too_many(self):
        manual = manual_with_121_cards()
        for card in [None, (("free",),), [("full",) * 3] * 3]:
            for function, more in [(expression_for, []), (is_expression_for, [None])]:
                with self.assertRaises(InvalidCard) as caught:
                    function(manual, card, *more)
                self.assertIs(caught.exception.value, card)
        with self.assertRaises(InvalidManual):
            expression_for(None, None)


if __name__ == "__main__":
    unittest.main()
