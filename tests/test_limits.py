"""Point 3: at its limits every call ends soon."""

import random
import unittest

from tests.anything import same, twin
from tests.drawn import JOBS, widest_manual
from tests.soon import SoonTest
from withinbooks import books, doing, manuals
from withinbooks.manuals import Manual

FREE = ("coins", 0)


def widest_books(manual):
    """Books of 40 jobs: the first, the last and two other ones that can be done, and two that perhaps cannot."""
    draw = random.Random(8)
    many = doing.many_done(manual, 40)
    numbers = [0, many - 1, draw.randrange(many), draw.randrange(many)] if many else []
    made = [doing.done_book(manual, 40, number) for number in numbers]
    return made + [["x"] * 40, [JOBS[at % 4] for at in range(40)]]


def turning(rooms):
    """Two jobs that lead through all sets of rooms, or nearly all."""
    names = ["a", "b", "c", "d", "e", "f"][:rooms]
    manners = [(one, "x", other, ("coins", 1)) for one, other in zip(names, names[1:] + names[:1])]
    manners += [(one, "y", other, FREE) for one, other in zip(names, names[1:] + names[:1]) if one != names[-1]]
    manners += [(name, "y", name, ("fill", 3, 0)) for name in names[1:-1]]
    return Manual(manners, names, names[:1])


class LimitsTest(SoonTest):
    def widest(self):
        made = [widest_manual(seed) for seed in range(3)] + [widest_manual(4, rooms=6, manners=24), turning(4), turning(6)]
        return made + [widest_manual(5, rooms=1, jobs=1, manners=16), widest_manual(6, fills=1), widest_manual(7, fills=0)]

    def test_one_manual(self):
        for manual in self.widest():
            for made in [self.soon(manuals.struck, manual), self.soon(manuals.trimmed, manual)]:
                self.assertTrue(set(made.manners()) <= set(manual.manners()))
            self.soon(manuals.lean, manual)
            self.soon(manuals.jobs_of, manual)
            for room in self.soon(manuals.rooms_of, manual):
                self.soon(manuals.manners_at, manual, room, "x")
            for manner in manual.manners():
                way = self.soon(manuals.used_way, manual, manner)
                self.assertTrue(self.soon(manuals.is_used_way, manual, manner, way))
                self.assertFalse(self.soon(manuals.is_used_way, manual, manner, way + [manner] * 400))

    def test_two_manuals(self):
        for elder in self.widest():
            for newer in self.widest():
                cover = self.soon(manuals.cover_of, elder, newer)
                self.assertTrue(self.soon(manuals.is_cover, elder, newer, cover))
                self.soon(manuals.is_covered, elder, newer)
                changes = self.soon(manuals.told_changes, elder, newer)
                self.assertTrue(self.soon(manuals.are_changes, elder, newer, changes))
                self.assertEqual(self.soon(manuals.changed_by, elder, changes), newer)
                self.soon(manuals.changed, elder, ("put", ("q", "q", "q", FREE)))
                book = self.soon(doing.missed, elder, newer)
                self.assertEqual(self.soon(doing.is_missed, elder, newer, book), book is not None)
                table = self.soon(doing.doing_table, elder, newer)
                self.assertEqual(self.soon(doing.is_doing_table, elder, newer, table), book is None)
                self.assertEqual(self.soon(doing.do_alike, elder, newer), self.soon(doing.do_alike, newer, elder))

    def test_books(self):
        for manual in self.widest():
            for book in widest_books(manual):
                need = self.soon(books.need_of, manual, book)
                way = self.soon(books.least_way, manual, book)
                self.assertEqual(self.soon(books.is_least_way, manual, book, way), need is not None)
                self.assertTrue(self.soon(books.is_book, book))
                for purse in [0, 1, 12, 10 ** 29]:
                    self.ask_purse(manual, book, need, purse)

    def ask_purse(self, manual, book, need, purse):
        served = need is not None and need <= purse
        paper = self.soon(books.paper_of, manual, book, purse)
        self.assertEqual(self.soon(books.is_paper, manual, book, purse, paper), not served)
        self.assertEqual(self.soon(books.dry_at, manual, book, purse) is None, served)
        few = self.soon(books.few_way, manual, book, purse)
        self.assertEqual(self.soon(books.is_few_way, manual, book, purse, few), served)
        self.assertEqual(self.soon(books.fewest_fills, manual, book, purse) is None, not served)
        if served:
            self.assertTrue(self.soon(books.is_way, manual, book, few))
            self.assertLessEqual(max(self.soon(books.stretches, manual, few)), purse)

    def test_what_is_done(self):
        for manual in self.widest():
            for book in widest_books(manual):
                place = self.soon(doing.done_place, manual, book)
                self.assertEqual(self.soon(doing.does, manual, book), place is not None)
                self.soon(doing.rooms_after, manual, book)
                if place is not None:
                    self.assertEqual(self.soon(doing.done_book, manual, 40, place), book)
            self.assertGreaterEqual(self.soon(doing.many_done, manual, 40), 0)
            self.assertTrue(self.soon(doing.is_shortest_done, manual, self.soon(doing.shortest_done, manual)))
            self.soon(doing.growth, manual)

    def test_written_books(self):
        for manual in self.widest():
            book = widest_books(manual)[-3] * 10
            need = self.soon(books.need_of, manual, book)
            self.assertEqual(self.soon(books.least_way, manual, book) is None, need is None)
            self.soon(books.fewest_fills, manual, book, 12)

    def test_making_a_manual(self):
        manual = widest_manual(10)
        again = self.soon(manuals.Manual, manual.manners(), manual.beginnings(), manual.ends())
        self.assertTrue(same(twin(again).manners(), manual.manners()))


if __name__ == "__main__":
    unittest.main()
