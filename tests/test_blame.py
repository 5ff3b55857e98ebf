"""Points 63 to 68, against plain reckonings."""

import random
import unittest

from tests import bounded_manuals as bounded
from tests import plain_cards as plain
from tests import plain_pairs as pairs
from tests.anything import bent, odd_objects, same
from tests.drawn import EFFECTS, close_pairs, drawn_manuals, drawn_pairs
from tests.plain import is_plain_word
from withinbooks.blame import (
    are_blame_escapes, blame_escapes, blamed_jobs, cures, emptied, fill_cures, lot_edition, made_filling, made_free,
    needed_fills, over_jobs, safe_jobs, spare_fills, staying_lots, straying_lots)
from withinbooks.doing import missed
from withinbooks.errors import InvalidChanges, InvalidLot, InvalidManual, Refused, TooMany
from withinbooks.manuals import Manual, changed_by
from withinbooks.within import is_within, least_pairs

STAY = ("a", "x", "a", ("coins", 1))
BARE = [Manual([], [], []), Manual([], ["a"], []), Manual([STAY], ["a"], []), Manual([], ["a"], ["a"]),
        Manual([STAY], ["a"], ["a"])]


def drawn(seed, many, jobs=2):
    made = [(elder, newer) for elder in BARE for newer in BARE]
    return made[seed % 4::4] + drawn_pairs(seed, many, jobs=jobs) + close_pairs(seed, many * 2, jobs, 5)


def keep(manual):
    return [manual.manners(), manual.beginnings(), manual.ends()]


class AskedTest(unittest.TestCase):
    def refused(self, error, value, function, *arguments):
        with self.assertRaises(error) as caught:
            function(*arguments)
        self.assertIs(type(caught.exception), error)
        self.assertIs(caught.exception.value, value)

    def too_many(self, bound, function, *arguments):
        with self.assertRaises(TooMany) as caught:
            function(*arguments)
        self.assertEqual(caught.exception.value, bound, function.__name__)


class JobsTest(AskedTest):
    def test_over_jobs(self):
        for manual in drawn_manuals(160, 60):
            for lot in [[], ["x"], ["y"], ["x", "y"], ["a", "q", "x"], ["y", "z"]]:
                self.assertEqual(keep(over_jobs(manual, lot)), keep(pairs.over(manual, lot)))

    def test_what_is_no_lot_of_jobs(self):
        manual = BARE[4]
        for lot in bent(["x", "y"]) + odd_objects() + [["y", "x"], ["x", "x"], ("x", "y"), ["x", "Y"]]:
            right = type(lot) is list and all(is_plain_word(job) for job in lot) and lot == sorted(set(lot))
            if right:
                self.assertEqual(keep(over_jobs(manual, lot)), keep(pairs.over(manual, lot)))
            else:
                self.refused(InvalidLot, lot, over_jobs, manual, lot)

    def test_blamed_and_safe_jobs(self):
        counts = {}
        for elder, newer in drawn(161, 25) + drawn(162, 12, jobs=3):
            lots = pairs.lots_of(pairs.both_jobs(elder, newer))
            calm = [lot for lot in lots if pairs.is_plain_within(pairs.over(elder, lot), pairs.over(newer, lot))]
            stray = [lot for lot in lots if lot not in calm]
            blamed, safe = blamed_jobs(elder, newer), safe_jobs(elder, newer)
            self.assertTrue(same(blamed, pairs.least_of(stray)))
            self.assertTrue(same(safe, pairs.greatest_of(calm)))
            counts.update({("blamed", len(lot)): True for lot in blamed})
            counts.update({("safe", len(lot)): True for lot in safe})
        self.assertTrue({("blamed", many) for many in range(3)} | {("safe", many) for many in range(4)} <= set(counts))

    def test_jobs_of_one_edition_alone(self):
        one, other = BARE[4], Manual([("a", "y", "a", ("coins", 1))], ["a"], ["a"])
        self.assertEqual([blamed_jobs(one, other), safe_jobs(one, other)], [[["x"]], [["y"]]])
        self.assertEqual([blamed_jobs(BARE[3], other), safe_jobs(BARE[3], other)], [[], [["y"]]])
        self.assertEqual([blamed_jobs(BARE[3], BARE[0]), safe_jobs(one, BARE[0])], [[[]], []])

    def three(self):
        """Each two of the three jobs are safe, and all three not."""
        carry, rest = ("in", "carry", "in", ("coins", 1)), ("in", "rest", "in", ("fill", 0, 0))
        first = Manual([carry, ("in", "deal", "in", ("coins", 0)), rest], ["in"], ["in"])
        gone = [("in", "carry", "out", ("coins", 0)), ("out", "carry", "out", ("coins", 0)),
                ("out", "rest", "out", ("coins", 0)), ("out", "deal", "in", ("coins", 1)),
                ("in", "deal", "in", ("fill", 0, 0)), ("in", "rest", "in", ("coins", 0))]
        return first, Manual(gone, ["in"], ["in", "out"])

    def test_blame_escapes(self):
        many = {}
        for elder, newer in drawn(163, 20) + drawn(164, 12, jobs=3) + [self.three()]:
            lots, found = blamed_jobs(elder, newer), blame_escapes(elder, newer)
            many[len(lots)] = True
            self.assertIs(type(found), list)
            self.assertEqual(len(found), len(lots))
            for lot, escape in zip(lots, found):
                self.assertTrue(pairs.is_plain_escape(elder, newer, escape))
                # Over less than all of its jobs the newer edition stays within.
                self.assertEqual(sorted(set(plain.plain_leaves(escape))), lot)
            self.assertIs(are_blame_escapes(elder, newer, found), True)
        self.assertTrue({0, 1, 2} <= set(many))

    def test_bent_blame_escapes(self):
        for elder, newer in drawn(165, 8) + drawn(166, 6, jobs=3) + [self.three()]:
            lots, found = blamed_jobs(elder, newer), blame_escapes(elder, newer)
            more = [[("row", [one, one]) for one in found], found + found, [("row", [one, "q"]) for one in found]]
            for value in bent(found)[::2] + odd_objects()[::11] + more + [found[::-1]]:
                right = type(value) is list and len(value) == len(lots)
                right = right and all(pairs.is_plain_escape(elder, newer, one) for one in value)
                right = right and all(set(plain.plain_leaves(one)) <= set(lot) for one, lot in zip(value, lots))
                self.assertIs(are_blame_escapes(elder, newer, value), right, repr(value))

    def test_escapes_of_two_lots_stand_in_their_order(self):
        twin = [("a", "x", "a", ("coins", 1)), ("a", "y", "a", ("coins", 1))]
        elder = Manual([manner[:3] + (("fill", 0, 0),) for manner in twin], ["a"], ["a"])
        newer = Manual(twin, ["a"], ["a"])
        self.assertEqual(blamed_jobs(elder, newer), [["x"], ["y"]])
        good = [("again", "x"), ("again", "y")]
        for value, right in [(good, True), (good[::-1], False), (good[:1], False), (tuple(good), False),
                             ([good[0], ("again", ("row", ["x", "y"]))], False), ([good[0], "y"], False)]:
            self.assertIs(are_blame_escapes(elder, newer, value), right)

    def test_two_hundred_pairs_and_one_more(self):
        functions = [(blamed_jobs, []), (safe_jobs, []), (blame_escapes, []), (are_blame_escapes, [None])]
        elder, newer = bounded.pair_with_200_pairs()
        for function, more in functions:
            function(elder, newer, *more)
            function(newer, elder, *more)
        elder, newer = bounded.pair_with_201_pairs()
        for function, more in functions:
            self.too_many(200, function, elder, newer, *more)
            self.too_many(200, function, newer, elder, *more)
            self.refused(InvalidManual, None, function, elder, None, *more)


class EffectsTest(AskedTest):
    def test_made_manuals(self):
        merged = 0
        for manual in drawn_manuals(167, 60, rooms=2, jobs=1, manners=7):
            for function, made, picked in [(made_free, pairs.plain_free, pairs.plain_spending),
                                           (made_filling, pairs.plain_filling, pairs.plain_spending),
                                           (emptied, pairs.plain_emptied, pairs.plain_filling_manners)]:
                for lot in pairs.lots_of(picked(manual))[:40]:
                    right = pairs.with_effects(manual, lot, made)
                    self.assertEqual(keep(function(manual, list(lot))), keep(right))
                    merged += len(right.manners()) < len(manual.manners())
        self.assertGreater(merged, 20)

    def test_effects(self):
        def effects(function, manual):
            return [manner[3] for manner in function(manual, manual.manners()).manners()]
        for effect in EFFECTS:
            manual = Manual([("a", "x", "a", effect)], ["a"], ["a"])
            if effect[0] == "fill":
                self.assertEqual(effects(emptied, manual), [("coins", min(3, effect[1] + effect[2]))])
            elif effect[1] > 0:
                self.assertEqual(effects(made_free, manual), [("coins", 0)])
                self.assertEqual(effects(made_filling, manual), [("fill", effect[1], 0)])

    def test_what_is_no_lot_of_manners(self):
        spend, free, fill = STAY, ("a", "x", "b", ("coins", 0)), ("a", "y", "a", ("fill", 2, 3))
        dear = ("b", "x", "a", ("coins", 3))
        manual = Manual([spend, free, fill, dear], ["a"], ["a"])
        for function, rights in [(made_free, [spend, dear]), (made_filling, [spend, dear]), (emptied, [fill])]:
            others = [[dear, spend], [spend, spend], [fill, fill], [free], [fill], [spend], [spend, fill], (spend,),
                      [("a", "x", "a", ("coins", 2))], [("b", "x", "a", ("fill", 1, 1))]]
            for lot in bent(rights) + odd_objects() + others:
                right = any(same(lot, list(one)) for one in pairs.lots_of(rights))
                if right:
                    self.assertTrue(isinstance(function(manual, lot), Manual))
                else:
                    self.refused(InvalidLot, lot, function, manual, lot)


class CuresTest(AskedTest):
    def plain_calm(self, elder, newer, manners, made):
        lots = pairs.lots_of(manners)
        return [lot for lot in lots if pairs.is_plain_within(elder, pairs.with_effects(newer, lot, made))]

    def test_cures(self):
        kinds = {}
        for elder, newer in drawn(168, 24):
            spending = pairs.plain_spending(newer)
            if len(spending) > 4:
                self.too_many(4, cures, elder, newer)
                self.too_many(4, fill_cures, elder, newer)
                continue
            free = self.plain_calm(elder, newer, spending, pairs.plain_free)
            filling = self.plain_calm(elder, newer, spending, pairs.plain_filling)
            found, fills = cures(elder, newer), fill_cures(elder, newer)
            self.assertTrue(same(found, pairs.least_of(free)))
            self.assertTrue(same(fills, pairs.least_of(filling)))
            self.assertEqual([found == [[]], fills == [[]]], [is_within(elder, newer)] * 2)
            self.assertEqual([found == [], fills == []], [missed(elder, newer) is not None] * 2)
            self.assertTrue(all(any(set(one) <= set(lot) for one in fills) for lot in found))
            kinds.update({(len(found), len(lot)): True for lot in found})
            kinds["unlike"] = kinds.get("unlike", False) or found != fills
        self.assertTrue({(1, 0), (1, 1), (1, 2), (2, 1)} <= set(kinds) and kinds["unlike"], kinds)

    def test_spare_and_needed_fills(self):
        kinds = {}
        for elder, newer in drawn(169, 24):
            filling = pairs.plain_filling_manners(newer)
            if len(filling) > 4:
                self.too_many(4, spare_fills, elder, newer)
                self.too_many(4, needed_fills, elder, newer)
                continue
            if not is_within(elder, newer):
                self.refused(Refused, newer, spare_fills, elder, newer)
                self.refused(Refused, newer, needed_fills, elder, newer)
                continue
            lots = pairs.greatest_of(self.plain_calm(elder, newer, filling, pairs.plain_emptied))
            self.assertTrue(same(spare_fills(elder, newer), lots))
            needed = [manner for manner in filling if not any(manner in lot for lot in lots)]
            self.assertTrue(same(needed_fills(elder, newer), needed))
            kinds.update({(len(lots), len(lot)): True for lot in lots})
            kinds["needed"] = max(kinds.get("needed", 0), len(needed))
        self.assertTrue({(1, 0), (1, 1), (1, 2), (2, 1)} <= set(kinds) and kinds["needed"] > 1, kinds)

    def test_fills_that_can_go_one_by_one(self):
        twins = [("a", "x", "a", ("fill", 1, 0)), ("a", "x", "a", ("fill", 1, 1))]
        elder, newer = Manual(twins[:1], ["a"], ["a"]), Manual(twins, ["a"], ["a"])
        self.assertEqual(spare_fills(elder, newer), [[twins[0]], [twins[1]]])
        self.assertEqual([needed_fills(elder, newer), needed_fills(elder, elder)], [[], [twins[0]]])

    def test_five_manners(self):
        spending = [(room, job, "a", ("coins", 1)) for room in "ab" for job in "xy"] + [("a", "z", "a", ("coins", 3))]
        filling = [manner[:3] + (("fill", 0, 0),) for manner in spending]
        for many in [4, 5]:
            spend, fill = [Manual(manners[-many:], ["a"], ["a"]) for manners in [spending, filling]]
            for function, newer, other in [(cures, spend, fill), (fill_cures, spend, fill), (spare_fills, fill, spend),
                                           (needed_fills, fill, spend)]:
                function(other, other)
                if many == 4:
                    function(newer, newer)
                else:
                    self.too_many(4, function, newer, newer)
                    self.too_many(4, function, BARE[0], newer)
                    self.refused(InvalidManual, None, function, None, newer)
        free = Manual(spending[:4] + [("a", "z", "a", ("coins", 0))], ["a"], ["a"])
        self.assertEqual(cures(free, free), [[]])

    def test_four_comes_ahead_of_two_hundred(self):
        for made, functions in [(bounded.large_pair_with_6_that_spend(), [cures, fill_cures]),
                                (bounded.large_pair_with_5_that_fill(), [spare_fills, needed_fills])]:
            self.too_many(200, least_pairs, *made)
            for function in functions:
                self.too_many(4, function, *made)

    def test_two_hundred_pairs(self):
        elder, newer = bounded.pair_with_200_made_pairs()
        self.assertEqual(len(least_pairs(elder, newer)), 200)
        filling = self.plain_calm(elder, newer, pairs.plain_spending(newer), pairs.plain_filling)
        self.assertEqual(fill_cures(elder, newer), pairs.least_of(filling))
        self.refused(Refused, newer, spare_fills, elder, newer)
        self.refused(Refused, newer, needed_fills, elder, newer)
        elder, newer = bounded.pair_with_200_freed_pairs()
        self.assertEqual(len(least_pairs(elder, newer)), 200)
        free = self.plain_calm(elder, newer, pairs.plain_spending(newer), pairs.plain_free)
        self.assertEqual(cures(elder, newer), pairs.least_of(free))

    def test_more_pairs_needed_or_not(self):
        """The newer edition stays within as it is; yet a manual that some lot makes has too many pairs."""
        made = bounded.within_pair_with_201_later_pairs()
        self.assertTrue(is_within(*made))
        for function in [cures, spare_fills, needed_fills]:
            self.too_many(200, function, *made)
        made = bounded.within_pair_with_201_filling_pairs()
        self.assertTrue(is_within(*made))
        self.too_many(200, fill_cures, *made)
        self.too_many(200, cures, *bounded.pair_with_200_made_pairs())

    def test_too_many_pairs_come_ahead_of_refused(self):
        elder, newer = bounded.stray_pair_with_201_emptied_pairs()
        self.assertFalse(is_within(elder, newer))
        for function in [spare_fills, needed_fills]:
            self.too_many(200, function, elder, newer)
        for function in [cures, fill_cures, spare_fills, needed_fills]:
            self.too_many(200, function, *bounded.pair_with_201_pairs())


def drawn_changes(draw, manual):
    """At most 4 changes, most of which fit, some only behind others."""
    changes = []
    for _ in range(draw.randint(0, 4)):
        room, other = draw.choice("ab"), draw.choice("ab")
        manner = draw.choice(manual.manners() + [(room, draw.choice("xy"), other, draw.choice(EFFECTS))])
        less = ("effect", manner, draw.choice([("coins", 0), ("coins", 1), ("fill", 0, 0)]))
        changes.append(draw.choice([
            less, less, less, less, ("out", manner), ("put", manner), ("put", (room, "x", other, ("coins", 1))),
            ("out", (room, "x", other, ("coins", 1))),
            draw.choice([("stop", room), ("start", room), ("unstop", room), ("unstart", room)])]))
    return changes


class LotsOfChangesTest(AskedTest):
    def drawn(self, seed, many):
        draw = random.Random(seed)
        manuals = [elder for elder, _ in close_pairs(seed, many)] + drawn_manuals(seed, many // 2, rooms=2, manners=4)
        return [(manual, drawn_changes(draw, manual)) for manual in manuals]

    def test_editions(self):
        none = 0
        for elder, changes in self.drawn(170, 80):
            for lot in pairs.lots_of(list(range(len(changes)))):
                right, found = pairs.plain_edition(elder, changes, lot), lot_edition(elder, changes, list(lot))
                none += right is None
                self.assertEqual(found is None, right is None)
                if right is not None:
                    self.assertEqual(keep(found), keep(right))
                    self.assertEqual(found, changed_by(elder, [changes[at] for at in lot]))
        self.assertGreater(none, 50)

    def test_straying_and_staying_lots(self):
        kinds = {}
        for elder, changes in self.drawn(171, 150):
            editions = [(lot, pairs.plain_edition(elder, changes, lot)) for lot in pairs.lots_of(list(range(len(changes))))]
            stays = {lot: pairs.is_plain_within(elder, edition) for lot, edition in editions if edition is not None}
            straying, staying = straying_lots(elder, changes), staying_lots(elder, changes)
            self.assertTrue(same(straying, pairs.least_of([lot for lot in stays if not stays[lot]])))
            self.assertTrue(same(staying, pairs.greatest_of([lot for lot in stays if stays[lot]])))
            kinds.update({("straying", len(lot)): True for lot in straying})
            kinds.update({("staying", len(lot)): True for lot in staying})
            kinds["cured"] = kinds.get("cured", False) or any(set(one) < set(lot) for one in straying for lot in staying)
        wanted = {("straying", 1), ("straying", 2), ("staying", 0), ("staying", 1), ("staying", 2), ("staying", 3)}
        self.assertTrue(wanted <= set(kinds) and kinds["cured"], kinds)

    def test_no_changes(self):
        self.assertEqual([straying_lots(BARE[4], []), staying_lots(BARE[4], [])], [[], [[]]])
        self.assertEqual(keep(lot_edition(BARE[4], [], [])), keep(BARE[4]))
        misfit = [("start", "a"), ("unstart", "b")]
        self.assertEqual([straying_lots(BARE[4], misfit), staying_lots(BARE[4], misfit)], [[], [[]]])
        self.assertIsNone(lot_edition(BARE[4], misfit, [1]))
        self.assertEqual(staying_lots(BARE[4], [("put", STAY), ("out", STAY), ("put", STAY)]), [[1, 2]])

    def test_what_is_no_lot_of_changes(self):
        changes = [("start", "b"), ("stop", "b"), ("unstart", "b")]
        for lot in bent([0, 2]) + odd_objects() + [[3], [0, 1, 2, 3], [2, 0], [0, 0], (0, 1), [-1], [0, -1], [True]]:
            right = any(same(lot, list(one)) for one in pairs.lots_of([0, 1, 2]))
            if right:
                self.assertEqual(lot_edition(BARE[4], changes, lot) is None, lot in [[2], [1, 2]])
            else:
                self.refused(InvalidLot, lot, lot_edition, BARE[4], changes, lot)

    def test_changes_by_their_form(self):
        for function, more in [(straying_lots, []), (staying_lots, []), (lot_edition, [[]])]:
            for changes in [(("start", "b"),), [["start", "b"]], [("start", "b"), ("stop", 1)], None, [("put", BARE[4])]]:
                self.refused(InvalidChanges, changes, function, BARE[4], changes, *more)
            self.refused(InvalidManual, None, function, None, None, *more)

    def test_two_hundred_pairs_and_one_more(self):
        elder, changes = bounded.changes_with_200_pairs()
        editions = [lot_edition(elder, changes, list(lot)) for lot in pairs.lots_of([0, 1, 2, 3])]
        self.assertEqual(max(len(least_pairs(elder, one)) for one in editions if one is not None), 200)
        stays = [lot for lot, one in zip(pairs.lots_of([0, 1, 2, 3]), editions) if one is not None and is_within(elder, one)]
        self.assertEqual(staying_lots(elder, changes), pairs.greatest_of(stays))
        straying_lots(elder, changes)
        elder, changes = bounded.changes_with_201_pairs()
        self.too_many(200, straying_lots, elder, changes)
        self.too_many(200, staying_lots, elder, changes)
        self.too_many(200, least_pairs, elder, lot_edition(elder, changes, [0, 3]))
        self.assertEqual([straying_lots(elder, changes[2:3]), staying_lots(elder, changes[2:3])], [[], [[]]])


if __name__ == "__main__":
    unittest.main()
