"""The blocks of examples of the sections that have landed.

Where any result of some kind may be returned, the judging function is asked instead.
"""

import unittest

from withinbooks import (
    agains, blame, books, bounds, cards, ceilings, clerks, cutting, doing, exchange, made, manuals, mending, papers, rests,
    scripts, tables, within)
from withinbooks.house import House
from withinbooks.manuals import Manual

BOTH = [("in", "carry", "in", ("coins", 1)), ("in", "rest", "in", ("fill", 0, 0)),
        ("out", "carry", "out", ("coins", 0)), ("out", "rest", "out", ("coins", 1))]
DEEP = [("p", "a", "p", ("coins", 0)), ("q", "a", "q", ("coins", 1)), ("p", "b", "p", ("coins", 1)),
        ("p", "b", "q", ("coins", 0)), ("q", "b", "p", ("fill", 0, 0))]
HOP = [("in", "carry", "out", ("coins", 2)), ("out", "carry", "in", ("fill", 1, 0))]


class ExamplesTest(unittest.TestCase):
    def test_section_3(self):
        beats, worth_at, rooms_of = manuals.beats, manuals.worth_at, manuals.rooms_of
        told = [worth_at(("coins", 2), 1, 1), worth_at(("fill", 2, 0), 1, 1),
                beats(("fill", 2, 2), ("coins", 2)), beats(("coins", 0), ("fill", 0, 1))]
        self.assertEqual(told, [4, 3, True, False])
        carry, rest = ("in", "carry", "in", ("coins", 1)), ("in", "rest", "in", ("fill", 0, 0))
        away, stay = ("in", "carry", "out", ("coins", 0)), ("out", "rest", "out", ("coins", 0))
        one, two = Manual([carry, rest], ["in"], ["in"]), Manual([carry, rest, away, stay], ["in"], ["in", "out"])
        self.assertEqual([rooms_of(two), len(manuals.told_changes(one, two))], [["in", "out"], 3])
        self.assertEqual(manuals.used_way(two, stay), [away, stay])
        self.assertTrue(manuals.is_used_way(two, stay, [away, stay]))
        covers = [manuals.cover_of(one, two), manuals.cover_of(two, one), manuals.is_covered(two, one)]
        self.assertEqual(covers, [[("in", "in")], [("out", "in")], False])
        dear = Manual([carry[:3] + (("fill", 0, 1),), rest], ["in"], ["in"])
        self.assertEqual(manuals.told_changes(one, dear), [("effect", carry, ("fill", 0, 1))])
        self.assertTrue(manuals.are_changes(one, dear, [("effect", carry, ("fill", 0, 1))]))
        pit = Manual([("in", "go", "pit", ("coins", 0)), ("pit", "go", "pit", ("coins", 1))], ["in"], ["in"])
        self.assertTrue(manuals.struck(pit) == Manual([], ["in"], ["in"]))
        many = [carry, carry[:3] + (("coins", 3),), carry[:3] + (("fill", 0, 2),), carry[:3] + (("fill", 2, 3),)]
        self.assertEqual(manuals.lean(Manual(many, ["in"], ["in"])).manners(), [carry, carry[:3] + (("fill", 0, 2),)])

    def test_section_4(self):
        walk, pump = ("a", "go", "a", ("coins", 2)), ("a", "go", "a", ("fill", 1, 1))
        house, three = Manual([walk, pump], ["a"], ["a"]), ["go", "go", "go"]
        ways = [[walk, walk, pump], [pump, pump, pump], []]
        self.assertEqual([books.stretches(house, way) for way in ways], [[5, 1], [1, 2, 2, 1], [0]])
        self.assertEqual(books.need_of(house, three), 2)
        self.assertTrue(books.is_least_way(house, three, [pump, pump, pump]))
        self.assertTrue(books.is_least_way(house, three, books.least_way(house, three)))
        self.assertEqual([books.fewest_fills(house, three, purse) for purse in [2, 5, 6, 1]], [3, 1, 0, None])
        self.assertEqual([books.dry_at(house, three, purse) for purse in [1, 2]], [1, None])
        papers = [[{"a": 1}, {"a": 0}, {}, {}], [{"a": 1}, {"a": 1}, {"a": 0}, {}], [{"a": 1}, {}, {}, {}]]
        self.assertEqual([books.is_paper(house, three, 1, paper) for paper in papers], [True, True, False])
        told = [books.paper_of(house, three, 2), books.need_of(house, ["go", "stop"]),
                books.dry_at(house, ["go", "stop"], 9), books.need_of(house, []), books.is_way(house, ["go"], [walk])]
        self.assertEqual(told, [None, None, 1, 0, True])

    def test_section_5(self):
        carry, rest = ("in", "carry", "in", ("coins", 1)), ("in", "rest", "in", ("fill", 0, 0))
        away, stop = ("in", "carry", "out", ("coins", 0)), ("out", "rest", "out", ("coins", 0))
        one, two = Manual([carry, rest], ["in"], ["in"]), Manual([carry, rest, away, stop], ["in"], ["in", "out"])
        once = Manual([("in", "carry", "out", ("coins", 3))], ["in"], ["out"])
        stay = Manual([("a", "x", "a", ("coins", 0)), ("a", "y", "b", ("coins", 2)), ("b", "x", "b", ("coins", 0))],
                      ["a"], ["a", "b"])
        rooms = [doing.rooms_after(two, ["carry"]), doing.rooms_after(two, ["carry", "rest"]),
                 doing.rooms_after(once, ["rest"])]
        self.assertEqual(rooms, [["in", "out"], ["in", "out"], []])
        self.assertEqual([doing.does(two, ["rest", "carry"]), doing.is_shortest_done(one, [])], [True, True])
        self.assertEqual(doing.shortest_done(once), ["carry"])
        self.assertEqual([doing.missed(one, two), doing.missed(once, one), len(doing.missed(two, once))], [None, None, 0])
        self.assertTrue(doing.is_missed(one, once, doing.missed(one, once)))
        self.assertTrue(doing.is_missed(one, once, []))
        self.assertEqual([doing.do_alike(one, two), doing.do_alike(one, once)], [True, False])
        self.assertEqual([doing.is_doing_table(one, two, [("in", ("in",))]),
                          doing.is_doing_table(one, two, [("in", ("in", "out"))]),
                          doing.is_doing_table(once, stay, [("in", ()), ("out", ())]),
                          doing.is_doing_table(two, one, [("in", ("in",)), ("out", ("in",))])],
                         [True, False, False, True])
        told = [doing.many_done(one, 3), doing.many_done(stay, 4), doing.done_book(stay, 2, 1),
                doing.done_place(stay, ["y", "x"]), doing.done_place(stay, ["y", "y"]), doing.many_done(once, 2)]
        self.assertEqual(told, [8, 5, ["x", "y"], 2, None, 0])
        self.assertEqual([doing.growth(one), doing.growth(stay), doing.growth(once)], [None, 1, -1])

    def test_section_6(self):
        carry, rest = ("in", "carry", "in", ("coins", 1)), ("in", "rest", "in", ("fill", 0, 0))
        away, stay = ("in", "carry", "out", ("coins", 0)), ("out", "rest", "out", ("coins", 0))
        one, two = Manual([carry, rest], ["in"], ["in"]), Manual([carry, rest, away, stay], ["in"], ["in", "out"])
        told = [cards.card_of(one, ["carry", "rest"]), cards.card_of(two, ["carry"]), cards.card_of(two, []),
                cards.card_of(two, ["pray"])]
        self.assertEqual(told, [(("full",),), (("some", "free"), ("never", "never")), (("free", "never"), ("never", "free")),
                                (("never", "never"), ("never", "never"))])
        pairs = [("some", "full"), ("free", "some"), ("many", "full")]
        self.assertEqual([cards.marks_behind(*pair) for pair in pairs], ["full", "some", "many"])
        self.assertEqual(cards.best_part(two, ["carry", "rest"], "in", "out"), [away, stay])
        self.assertTrue(cards.is_best_part(two, ["carry", "rest"], "in", "out", [away, stay]))
        carried = cards.card_of(two, ["carry"])
        told = [cards.cards_behind(two, carried, carried), agains.steady_power(two, carried), agains.again(two, carried),
                cards.value_of(two, carried)]
        self.assertEqual(told, [(("some", "some"), ("never", "never")), 2, (("many", "many"), ("never", "never")), "free"])
        by_turns = ("again", ("row", ["carry", "rest"]))
        told = [agains.expression_card(two, by_turns), agains.kind_of(two, by_turns), agains.kind_of(two, ("again", "carry")),
                agains.kind_of(two, ("row", ["rest", "pray"]))]
        self.assertEqual(told, [(("full", "full"), ("never", "never")), "bounded", "grows", "never"])
        told = [agains.written([two], ("again", "carry"), 0), agains.written_size([one, two], by_turns, 10 ** 20),
                agains.shows_growth(two, ("again", "carry"), 0), agains.written([one], ("again", ("row", [])), 10 ** 29)]
        self.assertEqual(told, [["carry", "carry", "carry", "carry"], 800000000000000000008, (3, True), []])
        told = [cards.is_best_part(one, [], "in", "in", []), cards.is_best_part(two, ["carry"], "in", "in", [away]),
                cards.best_part(two, ["carry"], "out", "in")]
        self.assertEqual(told, [True, False, None])

    def test_section_7(self):
        one = Manual([("in", "carry", "in", ("coins", 1)), ("in", "rest", "in", ("fill", 0, 0))], ["in"], ["in"])
        both, deep = Manual(BOTH, ["in", "out"], ["in", "out"]), Manual(DEEP, ["p"], ["p"])
        hop = Manual(HOP, ["in"], ["in", "out"])
        told = [tables.least_table(one), tables.is_table(one, [(("free",),)]), tables.one_purse(one),
                tables.calm_table(one), tables.is_growing(one, ("again", "carry"))]
        self.assertEqual(told, [[(("free",),), (("full",),), (("many",),), (("some",),)], False, False, None, True])
        told = [tables.one_purse(hop), tables.is_calm_table(hop, tables.least_table(hop)), tables.growing(hop),
                tables.growth_nesting(both), tables.growth_nesting(deep)]
        self.assertEqual(told, [True, True, None, 1, 2])
        self.assertEqual([tables.table_growth(manual) for manual in [one, hop, both, deep]],
                         [[3, 4], [4], [3, 7], [6, 19, 20]])
        told = [tables.is_growing(both, ("row", [("again", "carry"), ("again", "rest")])),
                tables.is_growing(both, ("again", "carry")),
                tables.is_growing(deep, ("again", ("row", [("again", "a"), "b"])))]
        self.assertEqual(told, [True, False, True])
        self.assertTrue(tables.is_expression_for(one, (("many",),), ("row", [("again", "carry"), "rest"])))

    def test_section_8_rests(self):
        one = Manual([("in", "carry", "in", ("coins", 1)), ("in", "rest", "in", ("fill", 0, 0))], ["in"], ["in"])
        hop = Manual(HOP, ["in"], ["in", "out"])
        told = [rests.rests_of(hop, 3, ["carry"]), rests.rests_of(hop, 2, ["carry", "carry"]),
                rests.rests_behind(hop, 3, ("never", 1), "carry"), rests.rest_list(hop, 3)]
        self.assertEqual(told, [("never", 1), ("short", "never"), (3, "never"), [(3, "never"), ("never", 1)]])
        told = [rests.is_rest_table(hop, 3, rests.rest_list(hop, 3)), rests.is_rest_table(hop, 2, rests.rest_list(hop, 2)),
                rests.least_purse(hop), rests.least_purse(one)]
        self.assertEqual(told, [True, False, 3, None])
        self.assertTrue(rests.is_hardest_book(hop, ["carry", "carry"]))
        self.assertTrue(rests.is_hardest_book(hop, rests.hardest_book(hop)))
        self.assertTrue(rests.is_harder_book(one, 2, ["carry", "carry", "carry"]))
        self.assertTrue(rests.is_harder_book(one, 2, rests.harder_book(one, 2)))
        self.assertIsNone(rests.harder_book(hop, 3))

    def test_section_8_ceilings(self):
        one = Manual([("in", "carry", "in", ("coins", 1)), ("in", "rest", "in", ("fill", 0, 0))], ["in"], ["in"])
        hop, many = Manual(HOP, ["in"], ["in", "out"]), ("again", "carry")
        told = [ceilings.is_book_of(hop, many, ["carry"] * 4), ceilings.is_book_of(hop, many, ["carry"]),
                ceilings.ceiling(hop, many), ceilings.top_book(hop, many)]
        self.assertEqual(told, [True, False, 3, ["carry", "carry"]])
        self.assertTrue(ceilings.is_top_book(hop, many, ["carry", "carry"]))
        told = [ceilings.ceiling(one, ("row", ["carry", "carry", "rest"])), ceilings.ceiling(one, many),
                ceilings.book_above(one, many, 2)]
        self.assertEqual(told, [2, None, ["carry", "carry", "carry"]])
        self.assertTrue(ceilings.is_book_above(one, many, 2, ["carry", "carry", "carry"]))

    def section_9(self):
        rest, doze = ("in", "rest", "in", ("fill", 0, 0)), ("in", "rest", "in", ("coins", 0))
        early = Manual([("in", "carry", "in", ("coins", 1)), rest], ["in"], ["in"])
        late = Manual([("in", "carry", "in", ("coins", 1)), doze], ["in"], ["in"])
        heavy = Manual([("in", "carry", "in", ("coins", 3)), rest], ["in"], ["in"])
        calm = Manual([("in", "carry", "in", ("fill", 1, 0)), rest], ["in"], ["in"])
        return early, late, heavy, calm

    def test_section_9_within(self):
        early, late, heavy, calm = self.section_9()
        self.assertEqual([(one[0][0], two[0][0]) for one, two in within.least_pairs(early, late)],
                         [("free", "free"), ("full", "free"), ("full", "many"), ("full", "some"), ("many", "many"),
                          ("some", "some")])
        told = [within.bad_pairs(early, late), within.is_within(early, late), within.is_within(late, early),
                within.are_alike(early, heavy)]
        self.assertEqual(told, [[((("full",),), (("many",),))], False, True, True])
        by_turns = ("again", ("row", ["carry", "rest"]))
        told = [within.is_escape(early, late, by_turns), within.is_escape(early, late, ("again", "carry")),
                within.escape_size(early, late), within.escape_size(late, early)]
        self.assertEqual(told, [True, False, 2, None])
        self.assertTrue(within.is_escape(early, late, within.escape(early, late)))
        told = [within.is_within(within.freed(calm), calm), within.is_within(within.freed(early), early),
                within.within_along([late, early, heavy])]
        self.assertEqual(told, [True, False, True])

    def test_section_9_bounds(self):
        early, late, heavy, calm = self.section_9()
        book = ["carry", "rest", "carry", "rest", "carry"]
        self.assertTrue(bounds.is_unserved_book(early, late, 1, 2, book))
        self.assertTrue(bounds.is_unserved_book(early, late, 1, 2, bounds.unserved_book(early, late, 1, 2)))
        told = [bounds.bound_at(early, heavy, 2), bounds.hardest_at(early, heavy, 2), bounds.bound_at(early, late, 0),
                bounds.bound_at(early, late, 1)]
        self.assertEqual(told, [6, ["carry", "carry"], 0, None])
        self.assertTrue(bounds.is_hardest_at(early, heavy, 2, ["carry", "carry"]))
        by_turns = ("again", ("row", ["carry", "rest"]))
        told = [bounds.is_outrun(early, late, 1, by_turns), bounds.is_outrun(early, late, 0, by_turns),
                bounds.outrun(early, heavy, 2)]
        self.assertEqual(told, [True, False, None])
        free = within.freed(calm)
        self.assertEqual([bounds.never_more(early, calm), bounds.more_book(free, calm)], [True, ["carry"]])
        self.assertTrue(bounds.is_more_book(free, calm, ["carry"]))

    def test_section_10(self):
        rest, doze = ("in", "rest", "in", ("fill", 0, 0)), ("in", "rest", "in", ("coins", 0))
        carry, pay = ("in", "carry", "in", ("coins", 1)), ("out", "deal", "in", ("coins", 1))
        early, late = Manual([carry, rest], ["in"], ["in"]), Manual([carry, doze], ["in"], ["in"])
        told = [blame.blamed_jobs(early, late), blame.safe_jobs(early, late),
                blame.over_jobs(early, ["rest"]) == Manual([rest], ["in"], ["in"])]
        self.assertEqual(told, [[["carry", "rest"]], [["carry"], ["rest"]], True])
        told = [blame.cures(early, late), blame.fill_cures(early, late), blame.cures(late, early)]
        self.assertEqual(told, [[[carry]], [[carry]], [[]]])
        full = Manual([("in", "carry", "in", ("fill", 1, 0)), doze], ["in"], ["in"])
        self.assertTrue(blame.made_filling(late, [carry]) == full and blame.emptied(early, [rest]) == late)
        told = [blame.spare_fills(late, early), blame.needed_fills(late, early), blame.spare_fills(early, early),
                blame.needed_fills(early, early)]
        self.assertEqual(told, [[[rest]], [], [[]], [rest]])
        first = Manual([carry, ("in", "deal", "in", ("coins", 0)), rest], ["in"], ["in"])
        gone = [("in", "carry", "out", ("coins", 0)), ("out", "carry", "out", ("coins", 0)),
                ("out", "rest", "out", ("coins", 0))]
        second = Manual(gone + [pay, ("in", "deal", "in", ("fill", 0, 0)), doze], ["in"], ["in", "out"])
        self.assertEqual([blame.blamed_jobs(first, second), blame.safe_jobs(first, second)],
                         [[["carry", "deal", "rest"]], [["carry", "deal"], ["carry", "rest"], ["deal", "rest"]]])
        self.assertTrue(blame.are_blame_escapes(first, second, [("again", ("row", ["carry", "deal", "rest"]))]))
        self.assertTrue(blame.are_blame_escapes(first, second, blame.blame_escapes(first, second)))
        self.assertEqual(blame.cures(first, second), [[pay]])
        moves = [("effect", rest, ("coins", 0)), ("effect", carry, ("coins", 0))]
        self.assertEqual([blame.straying_lots(early, moves), blame.staying_lots(early, moves)], [[[0]], [[0, 1]]])

    def test_section_11(self):
        manners = [("in", "look", "in", ("coins", 0)), ("in", "carry", "in", ("coins", 1)), ("in", "rest", "in", ("fill", 0, 0))]
        plain, hop = Manual(manners, ["in"], ["in"]), Manual(HOP, ["in"], ["in", "out"])
        told = [exchange.class_table(plain), exchange.are_even(plain, "look", ("row", ["look", "look"])),
                exchange.are_even(plain, "look", "carry")]
        self.assertEqual(told, [[[(("free",),)], [(("full",),)], [(("many",),)], [(("some",),)]], True, False])
        anew = ("again", ("place",))
        more = ("again", ("row", [("place",), "carry"]))
        told = [exchange.is_parting_frame(plain, "look", "carry", anew),
                exchange.is_parting_frame(plain, "look", "rest", anew),
                exchange.is_parting_frame(plain, "look", "rest", more)]
        self.assertEqual(told, [True, False, True])
        told = [exchange.put_in(("row", [("place",), "carry"]), "rest"),
                exchange.need_between(hop, ["carry", "carry"], "in", "in", 1, 4),
                exchange.need_between(hop, ["carry"], "in", "in", 0, 0)]
        self.assertEqual(told, [("row", ["rest", "carry"]), 4, None])
        self.assertTrue(exchange.are_same(plain, ["carry", "rest"], ["carry", "rest", "rest"]))
        self.assertTrue(exchange.is_parting_spendings(plain, ["carry"], ["rest", "carry"], ("in", 1, "in", 0)))
        found = exchange.parting_spendings(plain, ["carry"], ["rest", "carry"])
        self.assertTrue(exchange.is_parting_spendings(plain, ["carry"], ["rest", "carry"], found))

    def section_12(self):
        free = ("coins", 0)
        doors = [("start", "x", "high", free), ("start", "x", "low", free), ("high", "x", "high", free),
                 ("high", "x", "low", free), ("low", "y", "start", free)]
        shop = Manual(doors + [("high", "y", "start", ("fill", 2, 0)), ("low", "x", "high", ("fill", 3, 0))],
                      ["start"], ["high", "low", "start"])
        drain = Manual(doors + [("high", "y", "start", ("coins", 2)), ("low", "x", "high", ("coins", 3))],
                       ["start"], ["high", "low", "start"])
        return doors, shop, drain

    def test_section_12(self):
        free = ("coins", 0)
        turn = Manual([("odd", "x", "even", free), ("even", "x", "odd", free)], ["even", "odd"], ["even"])
        told = [clerks.could_be(turn, ["x"]), clerks.purses_ahead(turn, 2), clerks.outside_plan(turn, 0) is None]
        self.assertEqual(told, [["even", "odd"], [None, None, None], False])
        _, shop, drain = self.section_12()
        told = [clerks.purses_ahead(shop, 1), clerks.purses_ahead(drain, 1), clerks.clerk_table(shop, 1, 0),
                clerks.plan_against(shop, 2, 0)]
        self.assertEqual(told, [[2, 0], [None, 0], None, None])
        both = ("high", "low")
        rows = [("", (), ("start",), 2), ("high", (), both, 2), ("start", (), ("start",), 2)]
        told = [clerks.is_clerk_table(shop, 2, 0, rows), clerks.is_clerk_table(shop, 2, 0, rows[:2]),
                clerks.is_clerk_table(drain, 2, 0, rows)]
        self.assertEqual(told, [True, False, False])
        self.assertEqual(clerks.followed(shop, 2, 0, rows, ["x", "x", "y"]),
                         [("start", "x", "high", free), ("high", "x", "high", free), ("high", "y", "start", ("fill", 2, 0))])

    def test_section_12_plans(self):
        doors, shop, drain = self.section_12()
        both = ("high", "low")
        plan = [("", (), ("start",), "x", 0, 1), ("high", (), both, "y", 0, 0), ("low", (), both, "x", 0, 0),
                ("start", (), ("start",), "x", 0, 1)]
        told = [clerks.is_outside_plan(drain, 0, plan), clerks.is_outside_plan(shop, 0, plan),
                clerks.is_outside_plan(drain, 0, plan[:3])]
        self.assertEqual(told, [True, False, False])
        near = [("", (), ("start",), 1, "x", 1), ("high", (), both, 1, "y", 0), ("low", (), both, 1, "x", 0)]
        self.assertEqual([clerks.is_plan_against(shop, purse, 0, near) for purse in [1, 2]], [True, False])
        high = {("", ("start",), "x"): doors[0], ("start", ("start",), "x"): doors[0], ("high", both, "x"): doors[2],
                ("low", both, "x"): ("low", "x", "high", ("coins", 3))}
        high.update({("high", both, "y"): ("high", "y", "start", ("coins", 2)), ("low", both, "y"): doors[4]})
        self.assertEqual(clerks.spoiling_book(drain, 3, high), ["x", "y", "x", "y"])
        self.assertEqual(clerks.spoiling_book(drain, 1, high), ["x", "y"])

    def test_section_13(self):
        toll = Manual([("in", "x", "in", ("coins", 1))], ["in"], ["in"])
        lamp = Manual([("on", "y", "on", ("coins", 2))], ["on"], ["on"])
        pair = Manual([("a", "x", "b", ("coins", 0)), ("b", "x", "c", ("coins", 0))], ["a"], ["c"])
        either, behind = made.either_of(toll, lamp), made.followed_by(toll, lamp)
        self.assertEqual([books.need_of(either, book) for book in [[], ["x", "x"], ["y"], ["x", "y"]]], [0, 2, 2, None])
        listed = [[], ["x", "x", "y"], ["x", "y", "y"], ["y", "x"]]
        self.assertEqual([books.need_of(behind, book) for book in listed], [0, 2, 4, None])
        told = [books.need_of(made.repeated(toll), ["x"] * 3), books.need_of(made.repeated(pair), []),
                books.need_of(made.repeated(pair), ["x"] * 3)]
        self.assertEqual(told, [1, 0, None])
        step = Manual([("a", "x", "b", ("fill", 1, 2)), ("b", "y", "b", ("coins", 1))], ["a"], ["b"])
        told = [books.need_of(step, ["x", "y"]), books.need_of(made.mirrored(step), ["y", "x"]), books.need_of(step, []),
                books.need_of(made.begun(step), []), books.need_of(made.begun(step), ["x"])]
        self.assertEqual(told, [3, 3, None, 0, 2])
        self.assertEqual([books.need_of(made.limited_to(toll, pair), book) for book in [["x"], ["x", "x"]]], [None, 2])
        told = [made.unlike_book(toll, made.repeated(toll), 3), made.unlike_book(toll, made.mirrored(toll), 4)]
        self.assertEqual(told, [["x", "x"], None])

    def test_section_14(self):
        free = ("coins", 0)
        odd = Manual([("in", "a", "out", free), ("out", "a", "in", free)], ["in"], ["out"])
        lone = Manual([("in", "a", "out", free)], ["in"], ["out"])
        told = [cutting.many_pieces(odd, ["a"] * 5), cutting.many_pieces(odd, ["a"] * 4), cutting.many_pieces(odd, []),
                cutting.many_pieces(lone, ["a"] * 4), cutting.is_cuttable(lone, ["b"])]
        self.assertEqual(told, [1, 2, None, 4, False])
        told = [cutting.are_fewest_pieces(odd, ["a"] * 4, [["a"], ["a", "a", "a"]]),
                cutting.are_fewest_pieces(odd, ["a"] * 4, [["a", "a"], ["a", "a"]]),
                cutting.are_fewest_pieces(odd, ["a"] * 3, [["a"]] * 3)]
        self.assertEqual(told, [True, False, False])
        told = [cutting.may_cut(odd, ["a"] * 4), cutting.must_cut(odd, ["a"] * 4), cutting.must_cut(lone, ["a"] * 3),
                cutting.may_cut(odd, ["a"])]
        self.assertEqual(told, [[1, 3], [], [1, 2], []])
        held = Manual([("in", "a", "in", ("coins", 1)), ("in", "a", "out", free)], ["in"], ["out"])
        self.assertEqual([cutting.cuts(lone) == held, cutting.most_pieces(odd), cutting.most_pieces(lone)], [True, 2, None])
        told = [cutting.uncut(odd, 0), cutting.uncut(odd, 1), cutting.uncut(odd, 2), cutting.uncut(lone, 2),
                cutting.cuts_within(lone, odd), cutting.cuts_within(odd, lone)]
        self.assertEqual(told, [["a"], ["a", "a"], None, ["a", "a", "a"], True, False])

    def test_section_15(self):
        free = ("coins", 0)
        loose = Manual([("w", "x", "v", free), ("v", "dot", "w", free), ("w", "dot", "w", free)], ["w"], ["w"])
        strict = Manual([("w", "x", "v", free), ("v", "dot", "w", free)], ["w"], ["w"])
        bare = Manual([("w", "x", "w", free)], ["w"], ["w"])
        self.assertEqual(mending.mended_by(["dot"] * 3, [("exchange", "x"), ("keep",), ("leave",)]), ["x", "dot"])
        corrections = mending.corrections
        told = [corrections(strict, [], ["dot"] * 3), corrections(strict, ["dot"], ["dot"] * 3), corrections(strict, [], ["x"]),
                corrections(strict, ["x"], ["x", "x"]), corrections(bare, ["dot"], ["dot"])]
        self.assertEqual(told, [2, 1, 1, 1, None])
        told = [mending.is_best_mending(strict, ["dot"], ["dot", "dot"], [("put", "x"), ("keep",)] * 2),
                mending.is_best_mending(strict, [], ["dot", "dot"], [("put", "x"), ("keep",)] * 2),
                mending.is_best_mending(strict, [], ["dot", "dot"], [("exchange", "x"), ("keep",)])]
        self.assertEqual(told, [True, False, True])
        told = [mending.most_corrections(loose, strict, ["dot"]), mending.most_corrections(loose, strict, []),
                mending.most_corrections(strict, loose, [])]
        self.assertEqual(told, [1, None, 0])
        self.assertTrue(mending.is_unmended(loose, strict, [], 1, ["dot"] * 3))
        self.assertTrue(mending.is_unmended(loose, strict, [], 1, mending.unmended(loose, strict, [], 1)))
        told = [mending.unmended(loose, strict, ["dot"], 0), mending.unmended(loose, strict, ["dot"], 1),
                mending.unmendable(loose, strict, ["dot"]), mending.unmendable(loose, bare, ["dot"])]
        self.assertEqual(told, [["dot"], None, None, ["dot"]])

    def test_section_16(self):
        fill = ("in", "rest", "in", ("fill", 0, 0))
        one = Manual([("in", "carry", "in", ("coins", 1)), fill], ["in"], ["in"])
        house = House(one, 2)
        told = [house.enter(["carry", "carry", "rest", "carry"]), house.need(0), house.promises() == [(one, 2)],
                house.first_promise(["carry"] * 3)]
        self.assertEqual(told, [0, 2, True, None])
        cheap = [("put", ("in", "carry", "in", ("coins", 0)))]
        told = [house.price(cheap), house.change(cheap, 5), house.purse(), house.need(0), len(house.promises())]
        self.assertEqual(told, [0, 0, 0, 0, 2])
        tired = [("out", fill), ("put", ("in", "rest", "in", ("coins", 0)))]
        self.assertEqual([house.undo(), house.purse(), house.price([("out", fill)]), house.price(tired)], [None, 2, None, None])
        told = [house.force(tired), house.broken(), house.lost(), house.need(0), house.least()]
        self.assertEqual(told, [None, [0], [0], 3, None])
        told = [house.is_broken_book(0, ["carry", "rest", "carry", "carry"]), house.is_broken_book(0, ["carry"] * 4),
                house.broken_book(1)]
        self.assertEqual(told, [True, False, None])
        self.assertEqual([house.undo(), house.widen(4), house.least(), house.lost(), house.undo()], [None, None, 4, [], None])
        idle = House(Manual([fill], ["in"], ["in"]), 3)
        self.assertEqual([idle.least(), idle.tighten(), idle.purse(), len(idle.promises())], [0, 0, 0, 1])

    def test_section_17(self):
        fill = ("in", "rest", "in", ("fill", 0, 0))
        one = Manual([("in", "carry", "in", ("coins", 1)), fill], ["in"], ["in"])
        cheap = [("put", ("in", "carry", "in", ("coins", 0)))]
        day = [("enter", ["carry", "rest", "carry"]), ("change", cheap, 3), ("need", 0), ("force", [("out", fill)]), ("lost",),
               ("broken",), ("undo",)]
        self.assertEqual(scripts.play(House(one, 1), day), [("entered", 0), ("purse", 0), ("need", 0), ("done",), ("lost", [0]),
                                                            ("broken", [0, 1]), ("done",)])
        self.assertEqual(scripts.play(House(one, 0), day)[0], ("refused", "Refused"))
        told = [scripts.end_of(one, 1, day)[1:], scripts.read_script(scripts.script_text(day)) == day]
        self.assertEqual(told, [(0, {0: ["carry", "rest", "carry"]}), True])
        self.assertEqual(scripts.shortened(one, 1, [("enter", ["rest"]), ("lost",), ("undo",), ("redo",)]),
                         [("enter", ["rest"]), ("redo",)])

    def test_section_18(self):
        carry, rest = ("in", "carry", "in", ("coins", 1)), ("in", "rest", "in", ("fill", 0, 0))
        self.assertEqual(papers.manual_text(Manual([rest, carry], ["in"], ["in"])),
                         "in carry in coins 1\nin rest in fill 0 0\nbegins in\nends in")
        told = [papers.read_manual("begins\nends") == Manual([], [], []),
                papers.change_text(("effect", carry, ("fill", 0, 1))), papers.read_change("unstop in")]
        self.assertEqual(told, [True, "effect in carry in coins 1 fill 0 1", ("unstop", "in")])
        told = [papers.expression_text(("row", ["carry", ("again", ("row", ["rest"]))])), papers.read_expression("carry * *"),
                papers.read_expression("( )")]
        self.assertEqual(told, ["( carry ( rest ) * )", ("again", ("again", "carry")), ("row", [])])
        pairs = [((("free",),), (("free", "never"), ("never", "free"))), ((), ())]
        told = [papers.table_text([(("free",),), (("some",),)]), papers.pairs_text(pairs)]
        self.assertEqual(told, ["free\nsome", "free | free never / never free\n- | -"])


if __name__ == "__main__":
    unittest.main()
