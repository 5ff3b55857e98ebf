"""The whole program: what one module returns is handed to another one, and nothing of one call shows in another one."""

import random
import unittest

from tests.anything import same, spoil, twin
from tests.arguments import right_values
from tests.asked import all_functions
from tests.bounded_manuals import manual_with_121_cards, pair_with_201_pairs
from tests.drawn import books_up_to, close_pairs, drawn_manuals, drawn_pairs
from tests.test_made import made_full
from tests.test_rules import told
from withinbooks import (
    agains, blame, books, bounds, cards, ceilings, clerks, cutting, doing, exchange, made, manuals, mending, papers, rests,
    scripts, tables, within)
from withinbooks.errors import Refused, TooMany
from withinbooks.house import House, replayed
from withinbooks.manuals import Manual


def reordered(manual):
    """An equal manual that is made of lists in another order, by way of other manuals."""
    turned = Manual(manual.manners()[::-1], manual.beginnings()[::-1], manual.ends()[::-1])
    there = manuals.told_changes(turned, Manual([], [], []))
    back = manuals.told_changes(Manual([], [], []), turned)
    return manuals.changed_by(manuals.changed_by(turned, there), back)


class AskedAgainTest(unittest.TestCase):
    def test_in_another_order_and_after_all_was_changed(self):
        draw = random.Random(900)
        calls = [(name, function, right_values(arguments)) for name, function, arguments in all_functions()]
        first = {}
        for name, function, passed in calls:
            result = function(*[twin(value) for value in passed])
            first[name] = told(twin(result))
            spoil(result)
        for _ in range(3):
            draw.shuffle(calls)
            for name, function, passed in calls:
                mine = [reordered(value) if isinstance(value, Manual) else twin(value) for value in passed]
                result = function(*mine)
                self.assertTrue(same(told(result), first[name]), name)
                spoil(result)
                spoil(mine)
                self.assertTrue(same(told(function(*[twin(value) for value in passed])), first[name]), name)

    def test_names_by_module(self):
        self.assertEqual(len(all_functions()), 199)


class TooManyTest(unittest.TestCase):
    def test_nowhere_else(self):
        """With too many cards, and too many pairs, only what the points name is refused."""
        many, (elder, newer) = manual_with_121_cards(), pair_with_201_pairs()
        job = manuals.jobs_of(many)[0]
        calls = [(exchange.is_class_table, [many, [[(("free",),)]]]), (exchange.are_same, [many, [job], [job, job]]),
                 (exchange.parting_spendings, [many, [job], [job, job]]), (exchange.need_between, [many, [job], "a", "b", 1, 1]),
                 (exchange.shown_by, [many, "a", 1, "b", 1]), (exchange.is_parting_spendings, [many, [job], [job, job], None]),
                 (cutting.uncut, [many, 3]), (cutting.is_uncut, [many, 3, [job]]), (cutting.cuts, [many]),
                 (cutting.must_cut, [many, [job] * 9]), (made.either_of, [many, many]), (made.limited_to, [many, many]),
                 (made.unlike_book, [elder, newer, 4]), (clerks.clerk_table, [many, 3, 2]), (clerks.outside_plan, [many, 2]),
                 (clerks.plan_against, [many, 3, 2]), (clerks.is_clerk_table, [many, 3, 2, []]),
                 (mending.mends, [elder, newer, []]), (mending.unmended, [elder, newer, [], 2]),
                 (mending.is_unmended, [elder, newer, [], 2, [job]]), (mending.unmendable, [elder, newer, [job]]),
                 (mending.is_unmendable, [elder, newer, [job], [job]]), (mending.unmended, [many, many, [job], 2])]
        for function, passed in calls:
            function(*passed)
        for first, second in [(elder, newer), (newer, elder), (many, elder)]:
            house = House(first, 3)
            changes = manuals.told_changes(first, second)
            told = [house.price(changes), house.least(), house.force(changes), house.broken(), house.price(changes[:0])]
            self.assertEqual(len(told), 5)
            self.assertEqual(scripts.play(house, [("least",), ("lost",), ("broken",)])[1], ("lost", []))
        for function, passed in [(exchange.class_table, [many]), (exchange.are_even, [many, job, job]),
                                 (within.is_within, [elder, newer])]:
            self.assertRaises(TooMany, function, *passed)


class TiesTest(unittest.TestCase):
    """The sentences that tie sections to one another."""

    def test_manuals_of_one_need(self):
        for manual in drawn_manuals(910, 60, rooms=4, jobs=2, manners=8):
            others = [manuals.struck(manual), manuals.trimmed(manual), manuals.lean(manual), reordered(manual),
                      papers.read_manual(papers.manual_text(manual)), made.mirrored(made.mirrored(manual))]
            for other in others:
                self.assertIsNone(made.unlike_book(manual, other, 3))
                self.assertTrue(doing.do_alike(manual, other))
            self.assertTrue(manuals.is_covered(manual, manuals.lean(manual)) or not manual.beginnings()
                            or not manuals.trimmed(manual) == manual)
            for manner in manuals.trimmed(manual).manners():
                self.assertIsNotNone(manuals.used_way(manuals.trimmed(manual), manner))
            self.assertEqual(clerks.could_be(manual, []), manuals.struck(manual).beginnings())

    def test_purses_of_a_manual(self):
        for manual in drawn_manuals(911, 60, rooms=3, jobs=2, manners=6):
            grown, least = tables.growing(manual), rests.least_purse(manual)
            self.assertEqual([tables.one_purse(manual), tables.calm_table(manual) is not None], [grown is None, grown is None])
            self.assertIs(least is None, grown is not None)
            self.assertIs(within.is_within(within.freed(manual), manual), grown is None)
            if grown is not None:
                need, grows = agains.shows_growth(manual, grown, 1)
                self.assertTrue(grows and need > 1 and ceilings.ceiling(manual, grown) is None)
                self.assertEqual(agains.kind_of(manual, papers.read_expression(papers.expression_text(grown))), "grows")
                continue
            self.assertEqual(bounds.bound_at(within.freed(manual), manual, 0), least)
            self.assertIsNone(rests.harder_book(manual, least))
            self.assertIsNotNone(rests.rest_table(manual, least))
            hardest = rests.hardest_book(manual)
            self.assertTrue(hardest is None or books.need_of(manual, hardest) == least)
            self.assertEqual(House(manual, 12).least() is None, False)
            for ahead in range(3):
                unseen = clerks.unseen_purse(manual, ahead)
                self.assertTrue(unseen is None or unseen >= least)

    def test_cards_and_tables(self):
        for manual in drawn_manuals(912, 40, rooms=2, jobs=2, manners=5):
            table = tables.least_table(manual)
            self.assertTrue(tables.is_table(manual, papers.read_table(papers.table_text(table))))
            self.assertEqual(sorted(card for held in exchange.class_table(manual) for card in held), table)
            for card in table[:6]:
                expression = tables.expression_for(manual, card)
                self.assertEqual(agains.expression_card(manual, expression), card)
                if agains.nesting(expression) == 0:
                    book = agains.written([manual], expression, 3)
                    self.assertEqual(cards.card_of(manual, book), card)
                for other in table[:6]:
                    behind = tables.expression_for(manual, other)
                    frame = exchange.parting_frame(manual, expression, behind)
                    if frame is not None:
                        kinds = {agains.kind_of(manual, exchange.put_in(frame, one)) for one in [expression, behind]}
                        self.assertEqual(len(kinds), 2)
                        self.assertEqual(papers.read_expression(papers.expression_text(frame)), frame)

    def test_two_editions(self):
        seen = {True: 0, False: 0}
        for elder, newer in close_pairs(913, 40) + drawn_pairs(914, 40, manners=4):
            stays = within.is_within(elder, newer)
            seen[stays] += 1
            pairs = within.least_pairs(elder, newer)
            self.assertTrue(within.is_pair_table(elder, newer, papers.read_pairs(papers.pairs_text(pairs))))
            self.assertEqual(stays, not within.bad_pairs(elder, newer))
            self.assertEqual(stays, blame.blamed_jobs(elder, newer) == [])
            try:
                cures = blame.cures(elder, newer)
            except TooMany:
                cures = None
            if cures is not None:
                self.assertEqual(cures == [[]], stays)
                self.assertTrue(all(within.is_within(elder, blame.made_free(newer, lot)) for lot in cures))
                self.assertEqual(cures == [], doing.missed(elder, newer) is not None)
            house = House(elder, 1)
            price = house.price(manuals.told_changes(elder, newer))
            self.assertEqual(price, bounds.bound_at(elder, newer, 1))
            if stays:
                self.assertIsNotNone(price)
            self.check_needs(elder, newer)
        self.assertGreater(min(seen.values()), 10)

    def check_needs(self, elder, newer):
        try:
            never = bounds.never_more(elder, newer)
        except Refused:
            return
        more = bounds.more_book(elder, newer)
        self.assertEqual(never, more is None)
        found = made.unlike_book(elder, made.either_of(elder, newer), 4)
        self.assertTrue(found is None or books.need_of(newer, found) is not None)
        if never:
            self.assertIsNone(made.unlike_book(made.either_of(elder, newer), newer, 3) if
                              doing.do_alike(elder, newer) else None)

    def test_books_of_pieces_and_mended_books(self):
        for manual in drawn_manuals(915, 40, rooms=2, jobs=2, manners=4):
            whole = made.repeated(made_full(manual))
            for book in books_up_to(manuals.jobs_of(manual), 4)[::2]:
                self.assertTrue(doing.does(whole, book) == cutting.is_cuttable(manual, book) or book == [])
                need = mending.corrections(manual, [], book)
                self.assertIs(need == 0, doing.does(manual, book))
                found = mending.best_mending(manual, [], book)
                if found is not None:
                    self.assertTrue(books.is_book(mending.mended_by(book, found)))
            self.assertIn(mending.most_corrections(manual, manual, []), [0])
            self.assertIsNone(mending.unmendable(manual, manual, []))
            self.assertTrue(cutting.cuts_within(manual, manual))
            most = cutting.most_pieces(manual)
            self.assertEqual(most is None, tables.growing(cutting.cuts(manual)) is not None)

    def test_clerks_of_covered_manuals(self):
        for manual in drawn_manuals(916, 40, rooms=3, jobs=2, manners=6):
            for ahead in range(2):
                one, two = clerks.unseen_purse(manual, ahead), clerks.unseen_purse(manuals.struck(manual), ahead)
                self.assertEqual(one, two)
                if one is not None:
                    table = clerks.clerk_table(manual, one, ahead)
                    for book in books_up_to(manuals.jobs_of(manual), 3):
                        way = clerks.followed(manual, one, ahead, table, book)
                        self.assertEqual(way is not None, doing.does(manual, book))
                        if way is not None:
                            self.assertTrue(books.is_way(manual, book, way))
                            self.assertLessEqual(max(books.stretches(manual, way)), one)

    def test_houses_and_scripts(self):
        for elder, newer in close_pairs(917, 25):
            changes = manuals.told_changes(elder, newer)
            script = [("enter", ["x"]), ("change", changes, 12), ("enter", ["y", "x"]), ("tighten",), ("undo",), ("force", changes)]
            house = House(elder, 3)
            said = scripts.play(house, scripts.read_script(scripts.script_text(script)))
            self.assertEqual(len(said), len(script))
            again = replayed(House(elder, 3), house.log())
            self.assertTrue(again.manual() == house.manual() and again.promises() == house.promises())
            end = scripts.end_of(elder, 3, script)
            self.assertTrue(end[0] == house.manual() and end[1:] == (house.purse(), {at: house.book(at) for at in house.spots()}))
            log = house.log()
            self.assertTrue(scripts.end_of(elder, 3, log) == end)
            self.assertTrue(scripts.end_of(elder, 3, scripts.shortened(elder, 3, script)) == end)
            for at, (manual, purse) in enumerate(house.promises()):
                found = bounds.unserved_book(manual, house.manual(), purse, house.purse())
                self.assertEqual(found is not None, at in house.broken())


if __name__ == "__main__":
    unittest.main()
