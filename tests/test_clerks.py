"""Points 77 to 84, against plain reckonings."""

import itertools
import random
import unittest

from tests import plain_clerks as plain
from tests.anything import bent, odd_objects
from tests.drawn import books_up_to, drawn_manual, drawn_manuals
from tests.plain import plain_need, plain_stretches
from withinbooks import errors
from withinbooks.books import is_way, need_of
from withinbooks.clerks import (
    clerk_table, could_be, followed, is_clerk_table, is_outside_plan, is_plan_against, outside_plan, plan_against,
    purses_ahead, spoiling_book, unseen_purse)
from withinbooks.doing import do_alike, does
from withinbooks.manuals import Manual, is_covered, jobs_of
from withinbooks.rests import least_purse

STAY = ("a", "x", "a", ("coins", 1))
BARE = [Manual([], [], []), Manual([], ["a"], ["a"]), Manual([STAY], [], ["a"]), Manual([STAY], ["a"], []),
        Manual([STAY], ["a"], ["a"]), Manual([STAY, ("a", "y", "pit", ("coins", 0))], ["a", "pit"], ["a", "b"])]


def lively(seed, many, rooms=3, jobs=2, manners=6):
    """Manuals that do some books, with choices to be made."""
    draw = random.Random(seed)
    found = []
    while len(found) < many:
        manual = drawn_manual(draw, rooms, jobs, manners, 0.3)
        manual = Manual(manual.manners(), manual.beginnings() or ["a"], manual.ends() or ["a"])
        if len(could_be(manual, [])) > 0:
            found.append(manual)
    return found


def narrow(value, purse):
    """Whether a purse is small enough for a bend to be judged by the plain reckoning soon."""
    return value is not None and len(value) <= 12 and purse <= 4


class BoardsTest(unittest.TestCase):
    def test_could_be(self):
        for manual in BARE + drawn_manuals(300, 80):
            for book in books_up_to(jobs_of(manual) + ["none"], 3):
                self.assertEqual(could_be(manual, book), plain.plain_could_be(manual, book))

    def test_tables_and_plans(self):
        seen = {True: 0, False: 0}
        for manual in BARE + drawn_manuals(301, 30) + lively(302, 60):
            for ahead in range(3):
                for purse in [0, 1, 2, 5]:
                    table, plan = clerk_table(manual, purse, ahead), plan_against(manual, purse, ahead)
                    self.assertIs(table is None, plan is not None)
                    seen[plan is None] += 1
                    if table is not None:
                        self.assertTrue(plain.is_plain_clerk_table(manual, purse, ahead, table))
                        self.assertIs(is_clerk_table(manual, purse, ahead, table), True)
                    else:
                        self.assertTrue(plain.is_plain_plan_against(manual, purse, ahead, plan))
                        self.assertIs(is_plan_against(manual, purse, ahead, plan), True)
        self.assertGreater(min(seen.values()), 150)

    def test_outside_plans(self):
        seen = {True: 0, False: 0}
        levels = set()
        for manual in BARE + drawn_manuals(303, 40) + lively(304, 100):
            for ahead in range(3):
                plan = outside_plan(manual, ahead)
                seen[plan is None] += 1
                if plan is None:
                    self.assertIsNotNone(clerk_table(manual, 40, ahead))
                else:
                    levels |= {row[4] for row in plan}
                    self.assertTrue(plain.is_plain_outside_plan(manual, ahead, plan))
                    self.assertIs(is_outside_plan(manual, ahead, plan), True)
                    self.assertIsNone(clerk_table(manual, 40, ahead))
        self.assertTrue(min(seen.values()) > 60 and len(levels) > 1, (seen, levels))

    def test_unseen_purses(self):
        purses = set()
        for manual in BARE + drawn_manuals(305, 40) + lively(306, 60):
            told = purses_ahead(manual, 2)
            self.assertEqual(told, [unseen_purse(manual, ahead) for ahead in range(3)])
            self.assertEqual(purses_ahead(manual, 1), told[:2])
            for ahead, purse in enumerate(told):
                self.assertIs(purse is None, outside_plan(manual, ahead) is not None)
                if purse is not None:
                    self.assertIsNotNone(clerk_table(manual, purse, ahead))
                    self.assertTrue(purse == 0 or clerk_table(manual, purse - 1, ahead) is None)
                    self.assertLessEqual(least_purse(manual), purse)
                    purses.add(purse)
            ranks = [99 if purse is None else purse for purse in told]
            self.assertEqual(ranks, sorted(ranks)[::-1])
        self.assertGreater(len(purses), 4)

    def test_more_than_40(self):
        """A corridor of jobs of 3 coins each; its books are long, but there is one purse for all of them."""
        def corridor(size, last):
            names = ["r" + chr(97 + at // 26) + chr(97 + at % 26) for at in range(size + 1)]
            manners = [(one, "x", two, ("coins", 3)) for one, two in zip(names, names[1:])]
            manners += [(names[size], "x", "end", ("coins", last))]
            return Manual(manners, [names[0]], ["end"])
        self.assertEqual(purses_ahead(corridor(13, 1), 2), [40, 40, 40])
        self.assertEqual(unseen_purse(corridor(12, 3), 0), 39)
        for manual in [corridor(13, 2), corridor(14, 0)]:
            for ahead in range(3):
                for function in [unseen_purse, purses_ahead]:
                    with self.assertRaises(errors.TooMany) as caught:
                        function(manual, ahead)
                    self.assertEqual(caught.exception.value, 40)
            self.assertIsNone(outside_plan(manual, 0))
            self.assertIsNotNone(clerk_table(manual, 42, 1))
            self.assertIsNotNone(plan_against(manual, 40, 1))
        self.assertRaises(errors.InvalidCount, unseen_purse, corridor(14, 0), 3)

    def test_games_of_few_jobs(self):
        """With a table all short books are done; with a plan against the purse, not all of some length are."""
        lost = 0
        for manual in BARE + lively(307, 40):
            for ahead, purse in itertools.product(range(3), [0, 1, 3]):
                plan = plan_against(manual, purse, ahead)
                if plan is None:
                    self.assertTrue(plain.clerk_can(manual, purse, ahead, 5))
                elif max(row[5] for row in plan) <= 7:
                    self.assertFalse(plain.clerk_can(manual, purse, ahead, 7))
                    lost += 1
        self.assertGreater(lost, 60)

    def test_no_room_that_counts(self):
        for manual in [BARE[0], BARE[2], BARE[3], Manual([STAY], ["a"], ["b"])]:
            for purse, ahead in itertools.product([0, 12], range(3)):
                self.assertTrue(is_clerk_table(manual, purse, ahead, [("", (), (), 0)]))
                self.assertIsNotNone(clerk_table(manual, purse, ahead))
                self.assertIsNone(outside_plan(manual, ahead))
                self.assertEqual(unseen_purse(manual, ahead), 0)

    def test_covered_manuals(self):
        """Of a newer manual that covers, and does the same books, the number is never greater."""
        seen = 0
        for elder in lively(308, 60):
            cheap = {manner[:3] + (("coins", 0),) for manner in elder.manners()[:2]}
            newer = Manual(list(cheap | set(elder.manners())), elder.beginnings(), elder.ends())
            self.assertTrue(is_covered(elder, newer) and do_alike(elder, newer))
            for one, two in zip(purses_ahead(elder, 2), purses_ahead(newer, 2)):
                seen += one != two
                self.assertTrue(one is None or (two is not None and two <= one))
        self.assertGreater(seen, 5)


class JudgingTest(unittest.TestCase):
    def values(self, base, step):
        lists = bent(base)[::step] + odd_objects()[::15] + [base[:-1], base[1:], base[::-1], base + base[-1:]]
        for at, row in enumerate(base):
            lists += [base[:at] + base[at + 1:], base[:at] + [list(row)] + base[at + 1:]]
        return lists

    def test_bent_tables(self):
        judged = {True: 0, False: 0}
        for manual in BARE + lively(310, 30):
            for ahead, purse in itertools.product(range(3), [1, 3]):
                table = clerk_table(manual, purse, ahead)
                if narrow(table, purse):
                    more = [sorted(set(table) | {row}) for row in self.more_rows(manual, ahead, purse)]
                    for value in self.values(table, 7) + more:
                        right = plain.is_plain_clerk_table(manual, purse, ahead, value)
                        self.assertIs(is_clerk_table(manual, purse, ahead, value), right, repr(value))
                        judged[right] += 1
        self.assertGreater(min(judged.values()), 150)

    def more_rows(self, manual, ahead, purse):
        """Rows of boards that perhaps never come about."""
        rooms, _ = plain.plain_counted(manual)
        seen = [jobs for size in range(ahead + 2) for jobs in itertools.product(jobs_of(manual), repeat=size)][::2]
        crowds = [(), tuple(rooms), tuple(rooms[:1]), tuple(rooms[::-1]), ("pit",)]
        boards = itertools.product(["", "pit", "b"] + rooms, seen, crowds, [0, purse, purse + 1])
        return list(boards)[::3]

    def test_bent_outside_plans(self):
        judged = {True: 0, False: 0}
        for manual in BARE + lively(311, 60):
            for ahead in range(3):
                plan = outside_plan(manual, ahead)
                if narrow(plan, 0):
                    values = self.values(plan, 5)
                    for at, row in enumerate(plan):
                        others = [row[:3] + ("", 0, 0), row[:5] + (row[5] + 5,), row[:4] + (row[4] + 1, 0)]
                        others += [row[:3] + (job,) + row[4:] for job in jobs_of(manual)]
                        values += [plan[:at] + [other] + plan[at + 1:] for other in others]
                    for value in values:
                        right = plain.is_plain_outside_plan(manual, ahead, value)
                        self.assertIs(is_outside_plan(manual, ahead, value), right, repr(value))
                        judged[right] += 1
        self.assertGreater(min(judged.values()), 150)

    def test_bent_plans_against_purses(self):
        judged = {True: 0, False: 0}
        for manual in BARE + lively(312, 40):
            for ahead, purse in itertools.product(range(3), [0, 2]):
                plan = plan_against(manual, purse, ahead)
                if narrow(plan, purse):
                    values = self.values(plan, 5)
                    for at, row in enumerate(plan):
                        others = [row[:4] + ("", 0), row[:5] + (row[5] + 5,), row[:3] + (max(0, row[3] - 1),) + row[4:]]
                        others += [row[:4] + (job,) + row[5:] for job in jobs_of(manual)]
                        values += [plan[:at] + [other] + plan[at + 1:] for other in others]
                        values += [sorted(plan + [other]) for other in others]
                    for value in values:
                        right = plain.is_plain_plan_against(manual, purse, ahead, value)
                        self.assertIs(is_plan_against(manual, purse, ahead, value), right, repr(value))
                        judged[right] += 1
        self.assertGreater(min(judged.values()), 150)


class FollowedTest(unittest.TestCase):
    def test_ways_by_a_table(self):
        seen = 0
        for manual in BARE + lively(320, 50):
            for ahead, purse in itertools.product(range(3), [1, 4, 12]):
                table = clerk_table(manual, purse, ahead)
                if table is None:
                    continue
                for book in books_up_to(jobs_of(manual) + ["none"], 4)[::3]:
                    way = followed(manual, purse, ahead, table, book)
                    if not does(manual, book):
                        self.assertIsNone(way)
                        continue
                    seen += 1
                    self.assertTrue(is_way(manual, book, way) and max(plain_stretches(way)) <= purse)
                    self.assertEqual(way, plain.plain_followed(manual, purse, ahead, table, book))
        self.assertGreater(seen, 200)

    def test_tables_with_other_coins(self):
        """A table tells what is chosen: with more coins asked for at a board, another manner may be the first."""
        cheap, dear = ("a", "x", "b", ("coins", 1)), ("a", "x", "c", ("coins", 0))
        manual = Manual([cheap, dear, ("b", "x", "b", ("coins", 0)), ("c", "x", "c", ("coins", 0))], ["a"], ["b", "c"])
        both = ("b", "c")
        table = [("", (), ("a",), 1), ("b", (), both, 0), ("c", (), both, 0)]
        self.assertEqual(followed(manual, 1, 0, table, ["x"]), [cheap])
        table = [("", (), ("a",), 1), ("b", (), both, 1), ("c", (), both, 0)]
        self.assertEqual(followed(manual, 1, 0, table, ["x"]), [dear])
        self.assertEqual(followed(manual, 2, 0, table, ["x"]), [cheap])

    def test_refused_tables(self):
        manual = Manual([STAY, ("a", "y", "a", ("fill", 0, 0))], ["a"], ["a"])
        table = clerk_table(Manual([STAY], ["a"], []), 1, 0)
        for wrong in [table, None, [], [("", (), ("a",), 1)]]:
            with self.assertRaises(errors.InvalidTable) as caught:
                followed(manual, 1, 0, wrong, None)
            self.assertIs(caught.exception.value, wrong)


class RulesTest(unittest.TestCase):
    def test_spoiling_books(self):
        draw = random.Random(330)
        sizes = {}
        for manual in BARE + lively(331, 60):
            choices = plain.plain_rule_choices(manual)
            listed = [book for book in books_up_to(jobs_of(manual), 5) if does(manual, book)]
            for purse in [0, 2, 5]:
                rule = {key: draw.choice(choices[key]) for key in draw.sample(sorted(choices), len(choices))}
                spoiled = [book for book in listed if not plain.plain_rule_does(manual, purse, rule, book)]
                found = spoiling_book(manual, purse, rule)
                if spoiled:
                    self.assertEqual(len(found), len(spoiled[0]))
                if found is None or len(found) > 5:
                    self.assertEqual(spoiled, [])
                else:
                    self.assertIn(found, spoiled)
                size = None if found is None else len(found)
                sizes[size] = sizes.get(size, 0) + 1
        self.assertTrue(len(sizes) > 4 and sizes[None] > 10, sizes)

    def test_refused_rules(self):
        judged = {True: 0, False: 0}
        for manual in BARE + lively(332, 25):
            choices = plain.plain_rule_choices(manual)
            rule = {key: manners[0] for key, manners in choices.items()}
            values = [value for value in bent(rule)[::9] + odd_objects() if not isinstance(value, dict) or len(value) < 9]
            for value in values + [rule, dict(list(rule.items())[::-1]), {key: choices[key][-1] for key in choices}]:
                right = type(value) is dict and set(value) == set(choices)
                right = right and all(any(repr(manner) == repr(value[key]) for manner in choices[key]) for key in choices)
                judged[right] += 1
                if right:
                    spoiling_book(manual, 2, value)
                    continue
                with self.assertRaises(errors.InvalidRule) as caught:
                    spoiling_book(manual, 2, value)
                self.assertIs(caught.exception.value, value)
        self.assertGreater(min(judged.values()), 60)

    def test_a_clerk_who_spoils_no_book_has_a_purse(self):
        for manual in lively(333, 30):
            choices = plain.plain_rule_choices(manual)
            purse = unseen_purse(manual, 0)
            rules = itertools.islice(itertools.product(*[choices[key] for key in choices]), 40)
            told = [spoiling_book(manual, 3, dict(zip(choices, rule))) for rule in rules]
            if None in told:
                self.assertLessEqual(purse, 3)
            self.assertTrue(all(book is None or need_of(manual, book) == plain_need(manual, book) for book in told))


if __name__ == "__main__":
    unittest.main()
