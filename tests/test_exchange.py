"""Points 70 to 76, against plain reckonings."""

import itertools
import random
import unittest

from tests import plain_cards as plain
from tests import plain_exchange as exchanges
from tests.anything import bent, odd_objects, same, spoil
from tests.bounded_manuals import manual_with_120_cards, manual_with_121_cards
from tests.drawn import books_up_to, close_pairs, drawn_manual, drawn_manuals, widest_manual
from tests.plain import plain_need, plain_rooms
from withinbooks import errors
from withinbooks.agains import jobs_in, kind_of, nesting
from withinbooks.exchange import (
    are_even, are_same, class_table, is_class_table, is_open, is_parting_frame, is_parting_spendings, need_between,
    parting_frame, parting_spendings, put_in, shown_by)
from withinbooks.manuals import Manual, jobs_of
from withinbooks.tables import expression_for, least_table

STAY = ("a", "x", "a", ("coins", 1))
BARE = [Manual([], [], []), Manual([], ["a"], ["a"]), Manual([STAY], [], ["a"]), Manual([STAY], ["a"], ["a"])]


def small_expressions(jobs):
    listed = [one for size in range(3) for one in plain.plain_expressions(jobs, size, 1)]
    return listed + [("again", ("row", [])), ("row", [("row", []), ("row", [])])]


class FramesTest(unittest.TestCase):
    def test_open_expressions(self):
        values = odd_objects() + exchanges.plain_frames(["x", "carry"], 3, 2)
        values += [("row", [("row", [("again", ("place",))]), "x"]), ("place",), ("row", [("place",), ("place",)])]
        for value in values + bent(("row", ["x", ("again", ("place",)), ("place",)])):
            self.assertIs(is_open(value), exchanges.is_plain_open(value), repr(value))

    def test_put_in(self):
        for frame in exchanges.plain_frames(["x"], 3, 2):
            for expression in ["y", ("row", []), ("row", ["y", ("again", "x")]), ("again", ("again", "y"))]:
                put = put_in(frame, expression)
                self.assertTrue(same(put, exchanges.plain_put(frame, expression)))
                self.assertFalse(is_open(put))

    def test_nothing_of_the_arguments_is_hung_on(self):
        inner = ["x", ("place",)]
        frame, expression = ("row", [("row", inner), ("place",)]), ("row", ["y", ("row", ["z"])])
        first = put_in(frame, expression)
        self.assertEqual(first, ("row", [("row", ["x", expression]), expression]))
        spoil(first)
        self.assertEqual(put_in(frame, expression), ("row", [("row", ["x", expression]), expression]))
        self.assertEqual(expression, ("row", ["y", ("row", ["z"])]))

    def test_places_stand_where_a_point_says_so(self):
        frame = ("row", ["b", ("again", ("again", ("row", [("place",), "a"])))])
        self.assertEqual([jobs_in(frame), nesting(frame)], [["a", "b"], 2])
        for function in [are_even, parting_frame]:
            for passed in [[frame, "x"], ["x", frame]]:
                with self.assertRaises(errors.InvalidExpression) as caught:
                    function(Manual([STAY], ["a"], ["a"]), *passed)
                self.assertIs(caught.exception.value, frame)


class EvenTest(unittest.TestCase):
    def manuals(self, seed, many):
        drawn = drawn_manuals(seed, many, rooms=2, jobs=2, manners=5, fills=0.3)
        return BARE + drawn + [elder for elder, _ in close_pairs(seed, many, jobs=3, manners=6)]

    def test_even_expressions_and_parting_frames(self):
        seen = {True: 0, False: 0}
        counts = {}
        for manual in self.manuals(200, 13):
            jobs = jobs_of(manual)
            cards = {}
            for one in small_expressions(jobs):
                cards.setdefault(plain.plain_expression_card(manual, one), one)
            frames = exchanges.plain_frames(jobs, 3 if len(jobs) < 3 else 2, 2)
            first, alone = plain.plain_card(manual, []), {job: plain.plain_card(manual, [job]) for job in jobs}
            kinds = {card: [exchanges.kind_of_card(manual, exchanges.frame_card_in(first, alone, frame, card))
                            for frame in frames] for card in cards}
            for (card, one), (other_card, other) in itertools.product(cards.items(), repeat=2):
                even = are_even(manual, one, other)
                seen[even] += 1
                parting = [frame for frame, kind, other_kind in zip(frames, kinds[card], kinds[other_card])
                           if kind != other_kind]
                found = parting_frame(manual, one, other)
                self.assertIs(found is None, even)
                if even:
                    self.assertEqual(parting, [])
                    continue
                self.assertTrue(exchanges.is_plain_parting_frame(manual, card, other_card, found))
                self.assertTrue(is_parting_frame(manual, one, other, found))
                many = len(plain.plain_leaves(found))
                counts[many] = counts.get(many, 0) + 1
                fewest = min([len(plain.plain_leaves(frame)) for frame in parting], default=many)
                self.assertLessEqual(many, fewest)
        self.assertTrue(min(seen.values()) > 100 and min(counts.get(many, 0) for many in range(3)) > 2, (seen, counts))

    def test_equal_cards_are_even(self):
        manual = Manual([("a", "x", "a", ("coins", 2)), ("a", "y", "a", ("coins", 1))], ["a"], ["a"])
        self.assertIs(are_even(manual, "x", "y"), True)
        self.assertIsNone(parting_frame(manual, "x", ("row", ["y", "x"])))
        self.assertIs(are_even(manual, "x", ("row", [])), False)
        self.assertIs(are_even(manual, ("again", "x"), "x"), False)

    def test_what_only_an_again_behind_tells_apart(self):
        """Rows of jobs, and agains of the whole, are of one kind; with something done again behind they are not."""
        free = ("coins", 0)
        manners = [("s", "p", "k", free), ("s", "q", "t", free), ("k", "e", "k", free), ("t", "e", "t", ("coins", 1))]
        forth = Manual(manners, ["s"], ["k", "t"])
        back = Manual([(other, job, room, effect) for room, job, other, effect in manners], ["k", "t"], ["s"])
        for manual, frame in [(forth, ("row", [("place",), ("again", "e")])), (back, ("row", [("again", "e"), ("place",)]))]:
            self.assertIs(are_even(manual, "p", "q"), False)
            self.assertEqual(parting_frame(manual, "p", "q"), frame)
            self.assertTrue(is_parting_frame(manual, "p", "q", frame))
            classes, cards = class_table(manual), [plain.plain_card(manual, [job]) for job in ["p", "q"]]
            merged = [held for held in classes if cards[0] not in held and cards[1] not in held]
            merged.append(sorted(card for held in classes if cards[0] in held or cards[1] in held for card in held))
            self.assertIs(is_class_table(manual, merged), False)
            self.assertFalse(exchanges.is_plain_class_table(manual, merged))
            self.assertIs(is_class_table(manual, classes), True)

    def test_bent_frames(self):
        judged = {True: 0, False: 0}
        for manual in self.manuals(201, 14):
            jobs = jobs_of(manual)
            if not jobs:
                continue
            for one, other in [(jobs[0], ("row", [])), (jobs[-1], ("again", jobs[0]))]:
                cards = [plain.plain_expression_card(manual, put) for put in [one, other]]
                found = parting_frame(manual, one, other)
                base = ("again", ("row", [("place",), jobs[0]])) if found is None else found
                for value in bent(base) + odd_objects()[::11] + [("row", [base, base]), ("again", base)]:
                    right = exchanges.is_plain_parting_frame(manual, cards[0], cards[1], value)
                    self.assertIs(is_parting_frame(manual, one, other, value), right, repr(value))
                    judged[right] += 1
        self.assertGreater(min(judged.values()), 50)

    def test_jobs_of_the_manual_alone(self):
        manual = Manual([STAY], ["a"], ["a"])
        for function in [are_even, parting_frame]:
            for passed, wrong in [(["y", "x"], "y"), (["x", "y"], "y"), (["y", None], "y")]:
                with self.assertRaises(errors.InvalidExpression) as caught:
                    function(manual, *passed)
                self.assertIs(caught.exception.value, wrong)
        self.assertIs(is_parting_frame(manual, "x", ("row", []), ("row", ["y", ("place",)])), False)
        self.assertIs(is_parting_frame(manual, "x", ("row", []), ("again", ("place",))), True)

    def test_too_many(self):
        many, fewer = manual_with_121_cards(), manual_with_120_cards()
        one, other = jobs_of(many)[:2]
        calls = [(are_even, [one, other]), (class_table, []), (parting_frame, [one, other]),
                 (is_parting_frame, [one, other, None])]
        for function, passed in calls:
            with self.assertRaises(errors.TooMany) as caught:
                function(many, *passed)
            self.assertEqual(caught.exception.value, 120)
        for function, passed in calls:
            function(fewer, *[jobs_of(fewer)[0] if type(one) is str else one for one in passed])
        for function in [are_even, parting_frame]:
            self.assertRaises(errors.InvalidExpression, function, many, one, "nojob")
            self.assertRaises(errors.InvalidExpression, function, many, None, other)
        self.assertIs(is_class_table(many, [[card] for card in [(("free",),)]]), False)
        self.assertIs(is_class_table(many, None), False)


class ClassTablesTest(unittest.TestCase):
    def test_class_tables(self):
        merged = 0
        for manual in BARE + drawn_manuals(210, 60, rooms=2, jobs=2, manners=5, fills=0.3):
            table, classes = least_table(manual), class_table(manual)
            self.assertEqual(sorted(card for held in classes for card in held), table)
            self.assertEqual(classes, sorted(classes))
            self.assertIs(is_class_table(manual, classes), True)
            if len(table) <= 30:
                self.assertTrue(exchanges.is_plain_class_table(manual, classes))
                self.assertTrue(is_class_table(manual, [[card] for card in table[::-1]]))
            merged += len(classes) < len(table)
            for one, other in itertools.combinations([held[-1] for held in classes[:5]], 2):
                expressions = [expression_for(manual, card) for card in [one, other]]
                frame = parting_frame(manual, *expressions)
                self.assertTrue(exchanges.is_plain_parting_frame(manual, one, other, frame))
            for held in classes[:5]:
                expressions = [expression_for(manual, card) for card in held[:4]]
                self.assertTrue(all(are_even(manual, one, other) for one, other in zip(expressions, expressions[1:])))
        self.assertGreater(merged, 15)

    def test_bent_class_tables(self):
        judged = {True: 0, False: 0}
        for manual in BARE + drawn_manuals(211, 40, rooms=2, jobs=2, manners=4, fills=0.3):
            classes = class_table(manual)
            table = least_table(manual)
            if len(table) > 9:
                continue
            values = bent(classes)[::4] + odd_objects()[::9] + [classes + [[]], [[]] + classes, classes[::-1], [[card] for card in table], [table]]
            values += [classes[:at] + [held[:cut], held[cut:]] + classes[at + 1:]
                       for at, held in enumerate(classes) for cut in range(1, len(held))]
            values += [classes[:at] + [sorted(classes[at] + classes[at + 1])] + classes[at + 2:]
                       for at in range(len(classes) - 1)]
            for value in values:
                right = exchanges.is_plain_class_table(manual, value)
                self.assertIs(is_class_table(manual, value), right, repr(value))
                judged[right] += 1
        self.assertGreater(min(judged.values()), 40)

    def test_tables_that_are_not_least(self):
        """With all cards of two rooms, or of one, in classes; a card's copies may be missing in another table."""
        lone = Manual([], ["a", "b"], ["b"])
        swap, empty = (("never", "some"), ("some", "never")), (("free", "never"), ("never", "free"))
        twice = (("some", "never"), ("never", "some"))
        many = (("many", "never"), ("never", "many"))
        for cards in [[empty], [empty, swap], [empty, swap, many], sorted([empty, many, swap, twice])]:
            value = [[card] for card in sorted(cards)]
            self.assertIs(is_class_table(lone, value), exchanges.is_plain_class_table(lone, value), value)
        one = Manual([STAY], ["a"], ["a"])
        every = sorted(((mark,),) for mark in plain.MARKS)
        for value in [[[card] for card in every], [every], [every[:3], every[3:]], [every[:2], [every[2]], every[3:]]]:
            self.assertIs(is_class_table(one, value), exchanges.is_plain_class_table(one, value), value)
        self.assertTrue(is_class_table(one, [[card] for card in every]))

    def test_books_in_a_place_outside_of_agains_are_told_by_the_rooms_alone(self):
        for manual in drawn_manuals(212, 30, rooms=2, jobs=2, manners=5):
            frames = [("row", [ahead, ("place",), behind]) for ahead in jobs_of(manual) for behind in jobs_of(manual)]
            for one, other in itertools.combinations(books_up_to(jobs_of(manual), 2), 2):
                ones, others = plain.plain_card(manual, one), plain.plain_card(manual, other)
                rooms = [[[mark == "never" for mark in row] for row in card] for card in [ones, others]]
                if rooms[0] == rooms[1]:
                    for frame in frames:
                        kinds = [kind_of(manual, put_in(frame, ("row", book))) for book in [one, other]]
                        self.assertEqual(kinds[0], kinds[1])


class NeedsTest(unittest.TestCase):
    def test_need_between(self):
        for manual in drawn_manuals(220, 40, rooms=3, jobs=2, manners=6):
            for room, goal in itertools.product(plain_rooms(manual), repeat=2):
                for book in books_up_to(jobs_of(manual) + ["none"], 3)[::2]:
                    for ahead, behind in [(0, 0), (1, 4), (7, 0), (2, 2), (0, 30)]:
                        need = need_between(manual, book, room, goal, ahead, behind)
                        self.assertEqual(need, exchanges.plain_need_between(manual, book, room, goal, ahead, behind))

    def test_parting_spendings(self):
        seen = {None: 0}
        dense = [widest_manual(seed, 1 + seed % 2, 2, 4 + seed % 2, 0.6) for seed in range(40)]
        for manual in drawn_manuals(221, 40, rooms=3, jobs=2, manners=6, fills=0.6) + dense:
            books = [book for book in books_up_to(jobs_of(manual), 3) if book]
            for one, other in list(itertools.product(books, repeat=2))[::7]:
                listed = exchanges.plain_partings(manual, one, other)
                found = parting_spendings(manual, one, other)
                self.assertIs(are_same(manual, one, other), not listed)
                self.assertTrue(found in listed if listed else found is None)
                key = None if found is None else found[1] + found[3]
                seen[key] = seen.get(key, 0) + 1
                for value in listed:
                    self.assertIs(is_parting_spendings(manual, one, other, value), True)
        self.assertTrue(seen[None] > 50 and len(seen) > 4, seen)

    def test_bent_spendings(self):
        judged = {True: 0, False: 0}
        for manual in drawn_manuals(222, 25, rooms=2, jobs=2, manners=6, fills=0.6):
            books = [book for book in books_up_to(jobs_of(manual), 2) if book]
            for one, other in list(itertools.product(books, repeat=2))[::5]:
                found = parting_spendings(manual, one, other)
                base = ("a", 0, "a", 0) if found is None else found
                for value in bent(base) + odd_objects()[::13]:
                    right = found is not None and exchanges.is_plain_parting(manual, one, other, value)
                    right = right and value[1] + value[3] == found[1] + found[3]
                    self.assertIs(is_parting_spendings(manual, one, other, value), right, repr(value))
                    judged[right] += 1
        self.assertGreater(min(judged.values()), 10)

    def test_same_books_need_the_same_in_greater_manuals(self):
        draw = random.Random(223)
        same_ones = 0
        for manual in drawn_manuals(223, 40, rooms=2, jobs=2, manners=5) + drawn_manuals(226, 30, 1, 2, 3, 0.7):
            books = [book for book in books_up_to(jobs_of(manual), 2) if book]
            for one, other in itertools.combinations(books, 2):
                if not are_same(manual, one, other):
                    continue
                same_ones += 1
                further = drawn_manual(draw, 3, 2, 5)
                more = [(manner[0], "zz" + manner[1], manner[2], manner[3]) for manner in further.manners()]
                greater = Manual(manual.manners() + more, sorted(set(manual.beginnings() + further.beginnings())),
                                 sorted(set(manual.ends() + further.ends())))
                for before, after in itertools.product(books_up_to(["zzx", "zzy"], 1), repeat=2):
                    needs = [plain_need(greater, before + book + after) for book in [one, other]]
                    self.assertEqual(needs[0], needs[1])
        self.assertGreater(same_ones, 10)

    def test_books_of_the_manual_that_are_not_empty(self):
        manual = Manual([STAY], ["a"], ["a"])
        for function in [are_same, parting_spendings]:
            for passed, wrong in [([[], ["x"]], 0), ([["x"], []], 1), ([["x", "y"], []], 0), ([["x"], ["y"]], 1)]:
                with self.assertRaises(errors.InvalidBook) as caught:
                    function(manual, *passed)
                self.assertIs(caught.exception.value, passed[wrong])
        self.assertRaises(errors.InvalidBook, is_parting_spendings, manual, [], ["x"], None)

    def test_shown_by(self):
        for manual in drawn_manuals(224, 30, rooms=3, jobs=2, manners=6):
            for room, goal in itertools.product(plain_rooms(manual), repeat=2):
                for ahead, behind in [(0, 0), (4, 2), (0, 5), (30, 30)]:
                    greater, before, after = shown_by(manual, room, ahead, goal, behind)
                    self.assertTrue(exchanges.is_plain_greater(manual, greater))
                    for book in books_up_to(jobs_of(manual), 2)[1:]:
                        need = exchanges.plain_need_between(manual, book, room, goal, ahead, behind)
                        self.assertEqual(plain_need(greater, before + book + after), need)

    def test_shown_by_finds_new_words(self):
        manners = [(room, job, room, ("coins", 1)) for room, job in zip("abcd", "abcd")]
        manual = Manual(manners, ["a", "b"], ["a", "c"])
        greater, before, after = shown_by(manual, "a", 1, "a", 2)
        self.assertTrue(exchanges.is_plain_greater(manual, greater))
        self.assertEqual(plain_need(greater, before + ["a"] + after), 4)
        self.assertIsNone(plain_need(greater, before + ["b"] + after))

    def test_parted_books_are_shown(self):
        for manual in drawn_manuals(225, 40, rooms=2, jobs=2, manners=6):
            books = [book for book in books_up_to(jobs_of(manual), 2) if book]
            for one, other in list(itertools.combinations(books, 2))[::3]:
                found = parting_spendings(manual, one, other)
                if found is not None:
                    greater, before, after = shown_by(manual, *found)
                    needs = [plain_need(greater, before + book + after) for book in [one, other]]
                    self.assertNotEqual(needs[0], needs[1])


if __name__ == "__main__":
    unittest.main()
