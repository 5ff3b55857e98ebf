"""Points 10 to 18, against plain reckonings."""

import itertools
import unittest

from tests import plain
from tests.anything import CARRY, REST, bent, odd_objects, same
from tests.drawn import EFFECTS, books_up_to, drawn_manuals, drawn_pairs
from withinbooks.errors import InvalidChange
from withinbooks.manuals import (
    Manual, are_changes, are_parting_sides, beats, changed, changed_by, cover_of, is_cover, is_covered, is_effect,
    is_manner, is_used_way, is_word, jobs_of, lean, manners_at, parting_sides, rooms_of, struck, told_changes, trimmed,
    used_way, worth_at)

PAIRS = list(itertools.product(EFFECTS, repeat=2))


def bent_twice(value):
    """The value, what it becomes when it is bent, and what some of that becomes."""
    once = [value] + bent(value)
    return once + [other for held in once[::5] for other in bent(held)]


class WordsTest(unittest.TestCase):
    def test_words_effects_and_manners(self):
        values = odd_objects() + ["z", "az", "azazazaz", "azazazaza", "{", "`", "a\n", "\xe9", "\n", " a", "in-out", "aB"]
        for right in ["carry", ("coins", 3), ("fill", 3, 0), CARRY, REST]:
            values += bent_twice(right)
        for value in values:
            self.assertIs(is_word(value), plain.is_plain_word(value), repr(value))
            self.assertIs(is_effect(value), plain.is_plain_effect(value), repr(value))
            self.assertIs(is_manner(value), plain.is_plain_manner(value), repr(value))

    def test_every_effect_and_no_greater_one(self):
        for a, b in itertools.product(range(-1, 6), repeat=2):
            self.assertIs(is_effect(("coins", a)), 0 <= a <= 3)
            self.assertIs(is_effect(("fill", a, b)), 0 <= a <= 3 and 0 <= b <= 3)
        self.assertEqual([is_effect(("coins",)), is_effect(("fill", 1)), is_effect(("coins", 1, 1))], [False] * 3)


class WorthTest(unittest.TestCase):
    def test_worth(self):
        for effect in EFFECTS:
            for x, y in itertools.product(range(7), repeat=2):
                self.assertEqual(worth_at(effect, x, y), plain.plain_worth(effect, x, y))
        most = 10 ** 30 - 1
        self.assertEqual(worth_at(("coins", 3), most, most), 2 * most + 3)
        self.assertEqual([worth_at(("fill", 3, 1), most, 2), worth_at(("fill", 3, 1), 2, most)], [most + 3, most + 1])

    def test_beats_and_parting_sides(self):
        for one, other in PAIRS:
            self.assertIs(beats(one, other), plain.plain_beats(one, other), (one, other))
            sides = parting_sides(one, other)
            self.assertEqual(sides is None, beats(one, other))
            self.assertIs(are_parting_sides(one, other, sides), sides is not None)
            if one != other:
                self.assertFalse(beats(one, other) and beats(other, one))

    def test_which_sides_part(self):
        grid = list(itertools.product(range(6), repeat=2)) + [(10 ** 29, 10 ** 29), (10 ** 30 - 1, 0), (0, 10 ** 29)]
        for one, other in PAIRS:
            for sides in grid:
                more = plain.plain_worth(one, *sides) > plain.plain_worth(other, *sides)
                self.assertIs(are_parting_sides(one, other, sides), more)
        for value in bent_twice((4, 1)) + bent_twice((0, 1)) + odd_objects():
            fits = type(value) is tuple and len(value) == 2 and all(plain.is_plain_count(count) for count in value)
            more = fits and value[0] + 2 + value[1] > max(value[0] + 1, 1 + value[1])
            self.assertIs(are_parting_sides(("coins", 2), ("fill", 1, 1), value), more, repr(value))


class ManualTest(unittest.TestCase):
    def test_three_ascending_lists(self):
        manual = Manual([REST, CARRY, ("an", "x", "in", ("fill", 3, 3))], ["z", "in", "an"], ["b", "a"])
        self.assertEqual(manual.manners(), [("an", "x", "in", ("fill", 3, 3)), CARRY, REST])
        self.assertEqual([manual.beginnings(), manual.ends()], [["an", "in", "z"], ["a", "b"]])
        empty = Manual([], [], [])
        self.assertEqual([empty.manners(), empty.beginnings(), empty.ends(), rooms_of(empty)], [[], [], [], []])

    def test_equality(self):
        one = Manual([REST, CARRY], ["in", "out"], ["pit"])
        self.assertTrue(one == Manual([CARRY, REST], ["out", "in"], ["pit"]))
        self.assertFalse(one != Manual([CARRY, REST], ["out", "in"], ["pit"]))
        others = [Manual([REST], ["in", "out"], ["pit"]), Manual([REST, CARRY], ["in"], ["pit"]),
                  Manual([REST, CARRY], ["in", "out"], []), Manual([REST, CARRY], ["pit"], ["in", "out"])]
        for other in others + odd_objects():
            self.assertIs(one == other, False)
            self.assertIs(one != other, True)

    def test_rooms_jobs_and_manners_at(self):
        for manual in drawn_manuals(11, 100):
            rooms = plain.plain_rooms(manual)
            self.assertEqual(rooms_of(manual), rooms)
            self.assertEqual(jobs_of(manual), sorted({manner[1] for manner in manual.manners()}))
            for room, job in itertools.product(rooms, ["x", "y", "other"]):
                held = [manner for manner in manual.manners() if manner[0] == room and manner[1] == job]
                self.assertEqual(manners_at(manual, room, job), sorted(held))


def possible_changes(manuals):
    """All changes by manners and rooms that stand in one of the manuals, or nowhere."""
    manners = sorted({manner for manual in manuals for manner in manual.manners()} | {("a", "q", "a", ("coins", 0))})
    rooms = sorted({room for manual in manuals for room in plain.plain_rooms(manual)} | {"q"})
    effects = sorted({manner[3] for manner in manners})
    made = [(word, manner) for word in ["put", "out"] for manner in manners]
    made += [("effect", manner, effect) for manner in manners for effect in effects]
    return made + [(word, room) for word in ["start", "unstart", "stop", "unstop"] for room in rooms]


class ChangesTest(unittest.TestCase):
    def test_each_change(self):
        for elder, newer in drawn_pairs(12, 60):
            for change in possible_changes([elder, newer]):
                state = plain.plain_change(plain.plain_state(elder), change)
                if state is None:
                    for function, passed in [(changed, change), (changed_by, [change])]:
                        with self.assertRaises(InvalidChange) as caught:
                            function(elder, passed)
                        self.assertIs(caught.exception.value, change)
                else:
                    self.assertEqual(plain.plain_state(changed(elder, change)), state)
                    self.assertEqual(plain.plain_state(changed_by(elder, [change])), state)
        self.assertEqual(changed_by(elder, []), elder)

    def test_changes_are_as_few_as_can_be(self):
        for elder, newer in drawn_pairs(13, 150, rooms=1, jobs=1, manners=3):
            changes = told_changes(elder, newer)
            self.assertTrue(are_changes(elder, newer, changes))
            self.assertEqual(changed_by(elder, changes), newer)
            states = [plain.plain_state(elder), plain.plain_state(newer)]
            self.assertEqual(len(changes), plain.plain_distance(*states, possible_changes([elder, newer])))

    def test_bent_changes(self):
        for elder, newer in drawn_pairs(14, 150):
            changes = told_changes(elder, newer)
            goal = plain.plain_state(newer)
            for value in bent(changes) + [changes[::-1], changes + [("start", "q"), ("unstart", "q")]]:
                fits = type(value) is list and all(plain.is_plain_change(change) for change in value)
                fits = fits and plain.plain_changed(plain.plain_state(elder), value) == goal
                self.assertIs(are_changes(elder, newer, value), fits and len(value) == len(changes), repr(value))

    def test_another_effect_is_one_change(self):
        two = Manual([CARRY, CARRY[:3] + (("coins", 2),)], ["in"], ["in"])
        turned = Manual([CARRY[:3] + (("coins", 2),), CARRY[:3] + (("coins", 3),)], ["in"], ["in"])
        self.assertEqual(len(told_changes(two, turned)), 1)
        self.assertTrue(are_changes(two, turned, [("effect", CARRY, ("coins", 3))]))
        longer = [("out", CARRY), ("put", CARRY[:3] + (("coins", 3),))]
        self.assertFalse(are_changes(two, turned, longer))
        self.assertTrue(are_changes(two, two, []))
        self.assertFalse(are_changes(two, two, [("effect", CARRY, ("coins", 1))]))


class DeadRoomsTest(unittest.TestCase):
    def test_struck_and_trimmed(self):
        for manual in drawn_manuals(15, 500):
            rows = plain.plain_rows(manual, 3)
            living = manual.ends() + [row[0][0] for row in rows if row[-1][2] in manual.ends()]
            found = manual.beginnings() + [row[-1][2] for row in rows if row[0][0] in manual.beginnings()]
            self.assertEqual(struck(manual), self.over(manual, living))
            self.assertEqual(trimmed(manual), self.over(manual, [room for room in living if room in found]))

    def over(self, manual, rooms):
        manners = [manner for manner in manual.manners() if manner[0] in rooms and manner[2] in rooms]
        beginnings = [room for room in manual.beginnings() if room in rooms]
        return Manual(manners, beginnings, [room for room in manual.ends() if room in rooms])

    def test_a_long_corridor(self):
        rooms = ["a", "b", "c", "d"]
        steps = [(one, "x", other, ("coins", 0)) for one, other in zip(rooms, rooms[1:])]
        side = [("b", "x", "pit", ("coins", 0)), ("attic", "x", "c", ("coins", 0))]
        manual = Manual(steps + side, ["a"], ["d"])
        self.assertEqual([used_way(manual, step) for step in steps], [steps] * 3)
        self.assertEqual([used_way(manual, step) for step in side], [None, None])
        self.assertEqual(trimmed(manual), Manual(steps, ["a"], ["d"]))
        self.assertEqual(struck(manual), Manual(steps + side[1:], ["a"], ["d"]))

    def test_needs_stay(self):
        for manual in drawn_manuals(16, 200):
            for book in books_up_to(["x", "y"], 3):
                need = plain.plain_need(manual, book)
                for made in [struck(manual), trimmed(manual), lean(manual)]:
                    self.assertEqual(plain.plain_need(made, book), need)

    def test_used_ways(self):
        for manual in drawn_manuals(17, 200, manners=5):
            ways = [row for row in plain.plain_rows(manual, 5)
                    if row[0][0] in manual.beginnings() and row[-1][2] in manual.ends()]
            for manner in manual.manners():
                using = [way for way in ways if manner in way]
                shortest = min([len(way) for way in using], default=None)
                found = used_way(manual, manner)
                self.assertEqual(found is None, not using)
                self.assertEqual(found is not None, manner in trimmed(manual).manners())
                self.assertIs(is_used_way(manual, manner, found), found is not None)
                for value in bent(found) + ways[:50] + [None, []]:
                    right = any(same(value, way) for way in using if len(way) == shortest)
                    self.assertIs(is_used_way(manual, manner, value), right, repr(value))


class LeanTest(unittest.TestCase):
    def test_which_manners_stay(self):
        for manual in drawn_manuals(18, 400, rooms=1, jobs=2, manners=8):
            kept = []
            for manner in manual.manners():
                others = [other for other in manual.manners() if other != manner and other[:3] == manner[:3]]
                if not any(plain.plain_beats(other[3], manner[3]) for other in others):
                    kept.append(manner)
            self.assertEqual(lean(manual), Manual(kept, manual.beginnings(), manual.ends()))


def all_lists_of_pairs(elder, newer):
    pairs = list(itertools.product(plain.plain_rooms(elder), plain.plain_rooms(newer)))
    return [list(held) for many in range(len(pairs) + 1) for held in itertools.combinations(pairs, many)]


class CoverTest(unittest.TestCase):
    def test_all_lists_of_tuples(self):
        for elder, newer in drawn_pairs(19, 300):
            covers = []
            for value in all_lists_of_pairs(elder, newer):
                right = plain.is_plain_cover(elder, newer, value)
                self.assertIs(is_cover(elder, newer, value), right)
                if right:
                    covers.append(value)
            greatest = cover_of(elder, newer)
            self.assertEqual(greatest, sorted({pair for cover in covers for pair in cover}))
            self.assertTrue(is_cover(elder, newer, greatest))
            covered = all(any((room, other) in greatest for other in newer.beginnings()) for room in elder.beginnings())
            self.assertIs(is_covered(elder, newer), covered)

    def test_bent_covers(self):
        for elder, newer in drawn_pairs(20, 100):
            for value in bent(cover_of(elder, newer)) + odd_objects():
                self.assertIs(is_cover(elder, newer, value), plain.is_plain_cover(elder, newer, value), repr(value))

    def test_no_book_needs_more_where_it_is_covered(self):
        seen = 0
        for elder, newer in drawn_pairs(21, 600):
            if not is_covered(elder, newer) or not elder.beginnings():
                continue
            for book in books_up_to(["x", "y"], 3):
                need = plain.plain_need(elder, book)
                if need is not None:
                    seen += 1
                    self.assertLessEqual(plain.plain_need(newer, book), need)
        self.assertGreater(seen, 20)


if __name__ == "__main__":
    unittest.main()
