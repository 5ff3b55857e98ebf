"""The blocks of examples of the sections that have landed.

Where any result of some kind may be returned, the judging function is asked instead.
"""

import unittest

from withinbooks import books, doing, manuals
from withinbooks.manuals import Manual


class ExamplesTest(unittest.TestCase):
    def test_section_3(self):
        beats, worth_at, rooms_of = manuals.beats, manuals.worth_at, manuals.rooms_of
        told = [worth_at(("coins", 2), 1, 1), worth_at(("fill", 2, 0), 1, 1),
                beats(("fill", 2, 2), ("coins", 2)), beats(("coins", 0), ("fill", 0, 1))]
        self.assertEqual(told, [4, 3, True, False])
        carry, rest = ("in", "carry", "in", ("coins", 1)), ("in", "rest", "in", ("fill", 0, 0))
        away, stay = ("in", "carry", "out", ("coins", 0)), ("out", "rest", "out", ("coins", 0))
        one, two = Manual([carry, rest], ["in"], ["in"]), Manual([carry, rest, away, stay], ["in"], ["in", "out"])
        self.assertEqual([rooms_of(two), len(manuals.told_changes(one, two))], [["in", "out"], 3])
        self.assertEqual(manuals.used_way(two, stay), [away, stay])
        self.assertTrue(manuals.is_used_way(two, stay, [away, stay]))
        covers = [manuals.cover_of(one, two), manuals.cover_of(two, one), manuals.is_covered(two, one)]
        self.assertEqual(covers, [[("in", "in")], [("out", "in")], False])
        dear = Manual([carry[:3] + (("fill", 0, 1),), rest], ["in"], ["in"])
        self.assertEqual(manuals.told_changes(one, dear), [("effect", carry, ("fill", 0, 1))])
        self.assertTrue(manuals.are_changes(one, dear, [("effect", carry, ("fill", 0, 1))]))
        pit = Manual([("in", "go", "pit", ("coins", 0)), ("pit", "go", "pit", ("coins", 1))], ["in"], ["in"])
        self.assertTrue(manuals.struck(pit) == Manual([], ["in"], ["in"]))
        many = [carry, carry[:3] + (("coins", 3),), carry[:3] + (("fill", 0, 2),), carry[:3] + (("fill", 2, 3),)]
        self.assertEqual(manuals.lean(Manual(many, ["in"], ["in"])).manners(), [carry, carry[:3] + (("fill", 0, 2),)])

    def test_section_4(self):
        walk, pump = ("a", "go", "a", ("coins", 2)), ("a", "go", "a", ("fill", 1, 1))
        house, three = Manual([walk, pump], ["a"], ["a"]), ["go", "go", "go"]
        ways = [[walk, walk, pump], [pump, pump, pump], []]
        self.assertEqual([books.stretches(house, way) for way in ways], [[5, 1], [1, 2, 2, 1], [0]])
        self.assertEqual(books.need_of(house, three), 2)
        self.assertTrue(books.is_least_way(house, three, [pump, pump, pump]))
        self.assertTrue(books.is_least_way(house, three, books.least_way(house, three)))
        self.assertEqual([books.fewest_fills(house, three, purse) for purse in [2, 5, 6, 1]], [3, 1, 0, None])
        self.assertEqual([books.dry_at(house, three, purse) for purse in [1, 2]], [1, None])
        papers = [[{"a": 1}, {"a": 0}, {}, {}], [{"a": 1}, {"a": 1}, {"a": 0}, {}], [{"a": 1}, {}, {}, {}]]
        self.assertEqual([books.is_paper(house, three, 1, paper) for paper in papers], [True, True, False])
        told = [books.paper_of(house, three, 2), books.need_of(house, ["go", "stop"]),
                books.dry_at(house, ["go", "stop"], 9), books.need_of(house, []), books.is_way(house, ["go"], [walk])]
        self.assertEqual(told, [None, None, 1, 0, True])

    def test_section_5(self):
        carry, rest = ("in", "carry", "in", ("coins", 1)), ("in", "rest", "in", ("fill", 0, 0))
        away, stop = ("in", "carry", "out", ("coins", 0)), ("out", "rest", "out", ("coins", 0))
        one, two = Manual([carry, rest], ["in"], ["in"]), Manual([carry, rest, away, stop], ["in"], ["in", "out"])
        once = Manual([("in", "carry", "out", ("coins", 3))], ["in"], ["out"])
        stay = Manual([("a", "x", "a", ("coins", 0)), ("a", "y", "b", ("coins", 2)), ("b", "x", "b", ("coins", 0))],
                      ["a"], ["a", "b"])
        rooms = [doing.rooms_after(two, ["carry"]), doing.rooms_after(two, ["carry", "rest"]),
                 doing.rooms_after(once, ["rest"])]
        self.assertEqual(rooms, [["in", "out"], ["in", "out"], []])
        self.assertEqual([doing.does(two, ["rest", "carry"]), doing.is_shortest_done(one, [])], [True, True])
        self.assertEqual(doing.shortest_done(once), ["carry"])
        self.assertEqual([doing.missed(one, two), doing.missed(once, one), len(doing.missed(two, once))], [None, None, 0])
        self.assertTrue(doing.is_missed(one, once, doing.missed(one, once)))
        self.assertTrue(doing.is_missed(one, once, []))
        self.assertEqual([doing.do_alike(one, two), doing.do_alike(one, once)], [True, False])
        self.assertEqual([doing.is_doing_table(one, two, [("in", ("in",))]),
                          doing.is_doing_table(one, two, [("in", ("in", "out"))]),
                          doing.is_doing_table(once, stay, [("in", ()), ("out", ())]),
                          doing.is_doing_table(two, one, [("in", ("in",)), ("out", ("in",))])],
                         [True, False, False, True])
        told = [doing.many_done(one, 3), doing.many_done(stay, 4), doing.done_book(stay, 2, 1),
                doing.done_place(stay, ["y", "x"]), doing.done_place(stay, ["y", "y"]), doing.many_done(once, 2)]
        self.assertEqual(told, [8, 5, ["x", "y"], 2, None, 0])
        self.assertEqual([doing.growth(one), doing.growth(stay), doing.growth(once)], [None, 1, -1])


if __name__ == "__main__":
    unittest.main()
