"""Points 33 to 37, against plain reckonings."""

import random
import unittest

from tests import plain_cards as plain
from tests.anything import bent, odd_objects, same
from tests.drawn import drawn_manuals
from tests.plain import plain_need
from withinbooks.agains import (
    again, expression_card, is_expression, is_steady, jobs_in, kind_of, nesting, shows_growth, steady_power, written,
    written_size)
from withinbooks.books import need_of
from withinbooks.cards import card_of, cards_behind
from withinbooks.errors import InvalidExpression, TooMany
from withinbooks.manuals import Manual

CARRY, REST = ("in", "carry", "in", ("coins", 1)), ("in", "rest", "in", ("fill", 0, 0))
ONE = Manual([CARRY, REST], ["in"], ["in"])
EMPTY = Manual([], [], [])
# Three rooms in a ring, beside one that turns in two: what is steady in both has six copies.
WHEEL = Manual([("a", "x", "b", ("coins", 0)), ("b", "x", "c", ("coins", 0)), ("c", "x", "a", ("coins", 1))], ["a"], ["a"])
TURN = Manual([("a", "x", "b", ("coins", 0)), ("b", "x", "a", ("coins", 0))], ["a"], ["a"])


def drawn_cards(seed, size, many):
    draw = random.Random(seed)
    return [tuple(tuple(draw.choice(plain.MARKS + ["never"]) for _ in range(size)) for _ in range(size))
            for _ in range(many)]


def deep_expression(depth):
    made = "x"
    for at in range(depth):
        made = ("again", made) if at % 2 else ("row", ["y", made])
    return made


class SteadyTest(unittest.TestCase):
    def test_steady_powers_and_agains(self):
        powers = {}
        for size in range(5):
            manual = Manual([], ["a", "b", "c", "d"][:size], [])
            for card in drawn_cards(70 + size, size, 150):
                power = steady_power(manual, card)
                powers[power] = True
                self.assertEqual(power, plain.plain_power(card))
                self.assertIs(is_steady(manual, card), plain.plain_behind(card, card) == card)
                self.assertEqual(again(manual, card), plain.plain_again(card))
        self.assertTrue({1, 2, 3, 4} <= set(powers))

    def test_an_again_is_steady_and_its_own_again(self):
        for card in drawn_cards(76, 3, 100):
            manual = Manual([], ["a", "b", "c"], [])
            made = again(manual, card)
            self.assertTrue(is_steady(manual, made))
            self.assertEqual(again(manual, made), made)
            self.assertEqual(cards_behind(manual, made, made), made)

    def test_without_rooms(self):
        self.assertEqual([steady_power(EMPTY, ()), is_steady(EMPTY, ()), again(EMPTY, ())], [1, True, ()])


class ExpressionsTest(unittest.TestCase):
    def test_is_expression(self):
        rights = ["carry", "row", "again", ("row", []), ("row", ["a", "a"]), ("again", "again"), ("again", ("row", [])),
                  ("row", [("row", []), ("again", ("row", ["x", ("again", "y")]))]), deep_expression(30)]
        for value in rights:
            self.assertIs(is_expression(value), True)
        wrongs = ["", "Carry", "carrycarry", ("row", ()), ["row", []], ("row", "carry"), ("row",), ("again",), ("again", []),
                  ("again", "a", "b"), ("row", ["a"], ["b"]), ("row", [1]), ("again", True), ("turn", "a"), ("place",),
                  ("again", ("place",)), ("row", ["a", ("place",)]), ("row", [["a"]]), (("row",), []), (True, "a")]
        for value in wrongs:
            self.assertIs(is_expression(value), False, value)
        for value in odd_objects() + bent(rights[-2]) + bent(rights[5]) + bent(rights[4]):
            self.assertIs(is_expression(value), plain.is_plain_expression(value), repr(value))

    def test_jobs_and_nesting(self):
        place = ("place",)
        told = [("carry", ["carry"], 0), (("row", []), [], 0), (place, [], 0), (("again", place), [], 1),
                (("row", ["b", "a", ("again", ("row", ["b", place, ("again", "c")])), ("again", "a")]), ["a", "b", "c"], 2),
                (("again", ("again", ("row", []))), [], 2), (deep_expression(30), ["x", "y"], 15)]
        for expression, jobs, depth in told:
            self.assertEqual([jobs_in(expression), nesting(expression)], [jobs, depth])

    def test_jobs_and_nesting_of_any_object(self):
        for value in odd_objects() + bent(("row", [("again", "a"), ("place",)])):
            for function, judge in [(jobs_in, plain.plain_leaves), (nesting, plain.plain_nesting)]:
                if plain.is_plain_expression(value, True):
                    told = judge(value)
                    self.assertEqual(function(value), sorted(set(told)) if type(told) is list else told)
                else:
                    with self.assertRaises(InvalidExpression) as caught:
                        function(value)
                    self.assertIs(caught.exception.value, value)

    def test_cards_and_kinds(self):
        kinds = {}
        listed = [one for size in range(4) for one in plain.plain_expressions(["x", "y"], size, 2)]
        for at, manual in enumerate(drawn_manuals(77, 60)):
            for expression in listed[at % 5::5] + ["q", ("row", ["x", "q"]), ("again", "q")]:
                card = expression_card(manual, expression)
                self.assertEqual(card, plain.plain_expression_card(manual, expression))
                kind = kind_of(manual, expression)
                self.assertEqual(kind, plain.plain_kind(manual, expression))
                kinds[kind] = kinds.get(kind, 0) + 1
        self.assertTrue(all(kinds[kind] > 100 for kind in ["never", "grows", "bounded"]))

    def test_nested_thirty_deep(self):
        self.assertEqual(expression_card(ONE, deep_expression(30)), (("never",),))
        loops = Manual([("a", "x", "a", ("coins", 0)), ("a", "y", "a", ("coins", 1))], ["a"], ["a"])
        self.assertEqual([kind_of(loops, deep_expression(depth)) for depth in (0, 1, 2, 30)],
                         ["bounded", "bounded", "grows", "grows"])


class WritingTest(unittest.TestCase):
    def test_written_books(self):
        many = 0
        for manual, other in zip(drawn_manuals(78, 40), drawn_manuals(79, 40, rooms=2)):
            for expression in [one for size in range(3) for one in plain.plain_expressions(["x", "y"], size, 2)][::2]:
                for manuals in [[manual], [manual, other], [other, manual, other]]:
                    many += self.check_writing(manuals, expression, many % 3)
        self.assertGreater(many, 500)

    def check_writing(self, manuals, expression, number):
        size = written_size(manuals, expression, number)
        if size > 400:
            with self.assertRaises(TooMany) as caught:
                written(manuals, expression, number)
            self.assertEqual(caught.exception.value, 400)
            return 0
        book = written(manuals, expression, number)
        self.assertEqual([book, len(book)], [plain.plain_written(manuals, expression, number), size])
        return 1

    def test_copies_are_steady_in_each_manual(self):
        self.assertEqual([steady_power(WHEEL, expression_card(WHEEL, "x")), steady_power(TURN, expression_card(TURN, "x"))],
                         [3, 2])
        self.assertEqual(written([WHEEL, TURN], ("again", "x"), 0), ["x"] * 18)
        self.assertEqual(written([TURN, WHEEL], ("again", ("row", ["x", "y"])), 1), ["x", "y"] * 6)
        self.assertEqual(written([TURN], ("again", "x"), 2), ["x"] * 12)
        self.assertEqual(written([EMPTY], ("again", "x"), 2), ["x"] * 3)
        self.assertEqual(written([EMPTY, TURN], ("again", ("again", "x")), 0), ["x"] * 8)

    def test_copies_are_those_of_the_card_and_not_of_the_card_of_a_writing(self):
        """The card of the body is steady, that of its writing is not."""
        sink = Manual([("a", "y", "b", ("coins", 2)), ("b", "x", "b", ("coins", 3)), ("b", "y", "b", ("fill", 0, 0))],
                      ["b"], ["b"])
        body = ("row", ["y", ("again", "x")])
        self.assertEqual(steady_power(sink, expression_card(sink, body)), 1)
        self.assertEqual(steady_power(sink, card_of(sink, written([sink], body, 0))), 2)
        self.assertEqual(written([sink], ("again", body), 0), ["y", "x", "x"] * 2)

    def test_four_hundred_jobs_and_one_more(self):
        lone = Manual([CARRY], ["in"], ["in"])
        self.assertEqual(len(written([lone], ("again", "carry"), 399)), 400)
        self.assertEqual(written([lone], ("row", ["carry"] * 400), 10 ** 29), ["carry"] * 400)
        self.assertEqual(shows_growth(lone, ("again", "carry"), 399), (400, True))
        for number in [400, 401, 10 ** 29]:
            for function, first in [(written, [lone]), (shows_growth, lone)]:
                with self.assertRaises(TooMany) as caught:
                    function(first, ("again", "carry"), number)
                self.assertEqual(caught.exception.value, 400)
        with self.assertRaises(TooMany):
            written([lone], ("row", ["carry"] * 401), 0)
        with self.assertRaises(TooMany):
            shows_growth(lone, ("row", ["pray"] * 401), 0)

    def test_sizes_of_any_size(self):
        number = 10 ** 29 + 7
        four = ("again", ("row", [("again", ("row", ["carry", ("again", ("again", "rest"))])), "rest"]))
        self.assertEqual(written_size([ONE], four, number), ((1 + (number + 1) ** 2) * (number + 1) + 1) * (number + 1))
        self.assertEqual(written_size([ONE, TURN], ("again", "x"), number), (number + 1) * 4)
        deep = ("row", [])
        for _ in range(15):
            deep = ("again", ("row", [deep]))
        self.assertEqual([written_size([ONE], deep, number), written([ONE], deep, number)], [0, []])
        self.assertEqual(written([ONE], ("row", ["rest", ("again", ("row", []))]), number), ["rest"])


class GrowthTest(unittest.TestCase):
    def test_what_the_kinds_say_of_written_books(self):
        seen = {}
        listed = [one for size in range(3) for one in plain.plain_expressions(["x", "y"], size, 2)]
        for at, manual in enumerate(drawn_manuals(80, 50)):
            other = drawn_manuals(81, 10)[at % 10]
            for expression in listed[at % 3::3]:
                kind = kind_of(manual, expression)
                needs = []
                for number in range(4):
                    if written_size([manual, other], expression, number) <= 400:
                        needs.append(need_of(manual, written([manual, other], expression, number)))
                    self.check_shown(manual, expression, number, kind)
                if kind == "never":
                    self.assertEqual(needs, [None] * len(needs))
                elif kind == "grows":
                    self.assertTrue(all(need > number for number, need in enumerate(needs)))
                else:
                    self.assertTrue(all(need <= 6 * len(plain.plain_leaves(expression)) * 9 for need in needs))
                seen[kind] = True
        self.assertEqual(len(seen), 3)

    def check_shown(self, manual, expression, number, kind):
        if written_size([manual], expression, number) > 400:
            return
        shown = shows_growth(manual, expression, number)
        need = need_of(manual, written([manual], expression, number))
        right = (None, False) if need is None else (need, need > number)
        self.assertTrue(same(shown, right))
        if kind == "grows":
            self.assertIs(shown[1], True)

    def test_bounded_writings_have_one_purse(self):
        by_turns = ("again", ("row", ["carry", "rest"]))
        self.assertEqual([shows_growth(ONE, by_turns, number) for number in (0, 1, 199)],
                         [(1, True), (1, False), (1, False)])
        self.assertEqual(shows_growth(ONE, ("again", ("row", ["pray"])), 3), (None, False))
        self.assertEqual(shows_growth(ONE, ("row", []), 0), (0, False))

    def test_needs_are_plain_ones(self):
        for manual in drawn_manuals(82, 40, rooms=2, manners=4):
            for expression in ["x", ("again", "x"), ("row", ["x", ("again", "y")])]:
                book = written([manual], expression, 0)
                if len(book) <= 7:
                    self.assertEqual(shows_growth(manual, expression, 0)[0], plain_need(manual, book))


if __name__ == "__main__":
    unittest.main()
