"""Point 3 for sections 15 to 18: at its limits every call ends soon."""

import unittest

from tests.bounded_manuals import dear_pair, long_walk_pair, manual_with_120_cards
from tests.drawn import widest_manual
from tests.soon import SoonTest
from withinbooks import mending, papers, scripts
from withinbooks.doing import does
from withinbooks.errors import PurseError, TooMany
from withinbooks.house import House, replayed
from withinbooks.manuals import Manual, told_changes
from withinbooks.tables import least_table

FILLS = [0, 0.1, 0.2, 0.3, 0.3, 0.5, 0.8]


def widest():
    manuals = [widest_manual(seed, 2, 3, 8, fills) for seed, fills in enumerate(FILLS)]
    return manuals + [Manual(manual.manners(), ["a"], ["b"]) for manual in manuals[:4]]


class LimitsTest(SoonTest):
    def soon_or_refused(self, function, *arguments):
        """What a call returns, None if it is refused."""
        try:
            return self.soon(function, *arguments)
        except PurseError:
            return None

    def test_mending_of_books(self):
        for seed, fills in enumerate(FILLS):
            manual = Manual(widest_manual(seed, 4, 4, 16, fills).manners(), ["a"], ["b"])
            for stops in [[], ["x"], ["zz", "y"], ["none"], ["x", "y", "z", "zz"]]:
                for book in [["x", "y", "z", "zz", "none"] * 8, ["x"] * 40, ["none"] * 40]:
                    need = self.soon(mending.corrections, manual, stops, book)
                    found = self.soon(mending.best_mending, manual, stops, book)
                    self.assertIs(self.soon(mending.is_best_mending, manual, stops, book, found), need is not None)
                    if found is not None:
                        self.assertTrue(does(manual, self.soon(mending.mended_by, book, found)))

    def test_mending_of_editions(self):
        manuals = widest()
        for elder, newer in zip(manuals, manuals[1:] + manuals[:1]):
            for stops in [[], ["x"], ["z", "none"]]:
                self.soon(mending.mends, elder, newer, stops)
                self.soon_or_refused(mending.most_corrections, elder, newer, stops)
                for many in [0, 1, 12]:
                    book = self.soon(mending.unmended, elder, newer, stops, many)
                    self.assertIs(self.soon(mending.is_unmended, elder, newer, stops, many, book), book is not None)
                book = self.soon(mending.unmendable, elder, newer, stops)
                self.assertIs(self.soon(mending.is_unmendable, elder, newer, stops, book), book is not None)

    def test_houses(self):
        manuals = widest() + [manual for pair in [dear_pair(1), long_walk_pair()] for manual in pair]
        for first, other in zip(manuals, manuals[1:] + manuals[:1]):
            house = House(first, 12)
            changes = told_changes(first, other)[:4]
            for at in range(4):
                self.soon(house.force, changes[at:at + 1])
            self.assertEqual(len(house.promises()), 5)
            for at in range(8):
                self.soon_or_refused(house.enter, ["x", "y", "z", "z"] * at)
            for _ in range(2):
                self.soon(house.broken)
                self.soon(house.lost)
                self.soon(house.least)
                self.soon(house.price, changes[:1] and [("out", house.manual().manners()[0])])
                for at in range(len(house.promises())):
                    book = self.soon(house.broken_book, at)
                    self.assertIs(self.soon(house.is_broken_book, at, book), book is not None)
                self.soon_or_refused(house.tighten)
                self.soon(house.first_promise, ["x", "y", "z", "z"] * 10)
                again = self.soon(replayed, House(first, 12), house.log())
                self.assertEqual(again.log(), house.log())
                self.soon(house.undo)

    def test_scripts(self):
        for first, other in zip(widest(), widest()[1:]):
            changes = told_changes(first, other)[:4]
            script = [("enter", ["x", "y"]), ("price", changes), ("change", changes, 12), ("least",), ("force", changes[:1]),
                      ("broken",), ("tighten",), ("widen", 12), ("try", [("try", [("try", [("try", [("least",), ("undo",)])])])]),
                      ("go_on", 0, ["z"] * 30), ("undo",), ("undo",), ("redo",), ("price", [])]
            self.soon(scripts.play, House(first, 11), script)
            self.soon(scripts.end_of, first, 11, script[:8])
            self.soon(scripts.shortened, first, 11, script[:5] + script[6:8] + [("undo",)])
            self.assertEqual(self.soon(scripts.read_script, self.soon(scripts.script_text, script)), script)

    def test_papers(self):
        manual = widest_manual(3, 4, 4, 16, 0.5)
        self.assertTrue(self.soon(papers.read_manual, self.soon(papers.manual_text, manual)) == manual)
        table = least_table(manual_with_120_cards())
        self.assertEqual(self.soon(papers.read_table, self.soon(papers.table_text, table)), table)
        pairs = list(zip(table, table[::-1]))
        self.assertEqual(self.soon(papers.read_pairs, self.soon(papers.pairs_text, pairs)), pairs)
        deep = "x"
        for at in range(30):
            deep = [("again", deep), ("row", [deep] * 1 + ["y"])][at % 2]
        self.assertEqual(self.soon(papers.read_expression, self.soon(papers.expression_text, deep)), deep)
        book = ["carry", "rest"] * 200
        self.assertEqual(self.soon(papers.read_book, self.soon(papers.book_text, book)), book)
        script = [("need", 10 ** 30 - 1)] * 20
        self.assertEqual(self.soon(papers_script, script), script)


def papers_script(script):
    return scripts.read_script(scripts.script_text(script))


class TooManyTest(unittest.TestCase):
    def test_no_house_raises_too_many(self):
        """Prices, changes and promises are told of manuals with however many pairs."""
        manual = manual_with_120_cards()
        house = House(manual, 1)
        try:
            house.change([("out", manual.manners()[0])], 12)
            house.least()
            house.broken()
        except TooMany:
            self.fail("a house raised TooMany")
        except PurseError:
            pass


if __name__ == "__main__":
    unittest.main()
