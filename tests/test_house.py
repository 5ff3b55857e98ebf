"""Points 102 to 110, and what point 2 says of houses, against a plain house."""

import random
import unittest

from tests.anything import bent, odd_objects, same, spoil
from tests.drawn import books_up_to, drawn_manual
from tests.plain import plain_ways
from tests.plain_house import (
    COMMANDS, PlainHouse, drawn_command, house_told, is_served_plainly, made_house, outcome)
from withinbooks import errors
from withinbooks.books import least_way, need_of
from withinbooks.bounds import bound_at, is_unserved_book, unserved_book
from withinbooks.house import House, replayed
from withinbooks.manuals import Manual, changed_by, jobs_of

CARRY, FILL = ("in", "carry", "in", ("coins", 1)), ("in", "rest", "in", ("fill", 0, 0))
CHEAP = [("put", ("in", "carry", "in", ("coins", 0)))]
TIRED = [("out", FILL), ("put", ("in", "rest", "in", ("coins", 0)))]


def one():
    return Manual([CARRY, FILL], ["in"], ["in"])


def drawn_houses(seed, many):
    draw = random.Random(seed)
    made = []
    while len(made) < many:
        manual = drawn_manual(draw, 2, 2, 5, 0.3)
        made.append((Manual(manual.manners(), manual.beginnings() or ["a"], manual.ends() or ["a"]), draw.randrange(4)))
    return made


class CommandsTest(unittest.TestCase):
    def test_against_a_plain_house(self):
        draw = random.Random(700)
        seen = {}
        for manual, purse in drawn_houses(701, 60):
            house, second = House(manual, purse), PlainHouse(manual, purse)
            for _ in range(25):
                word, *things = drawn_command(draw, ["x", "y"], house.manual())
                told = outcome(getattr(house, word), *things)
                self.assertTrue(same(list(told), list(outcome(second.command, word, *things))), (word, things))
                seen[word, told[0]] = seen.get((word, told[0]), 0) + 1
                self.assertEqual(house_told(house), second.told())
        for word in COMMANDS + ["undo", "redo"]:
            self.assertGreater(seen.get((word, "told"), 0), 5, seen)
        for refused in [("enter", "Refused"), ("go_on", "Refused"), ("go_on", "InvalidSpot"), ("change", "Refused"),
                        ("change", "InvalidChange"), ("force", "InvalidChange"), ("widen", "InvalidCount"),
                        ("change", "InvalidCount"), ("tighten", "Refused"), ("undo", "NothingToUndo"),
                        ("redo", "NothingToRedo"), ("close", "InvalidSpot")]:
            self.assertGreater(seen.get(refused, 0), 0, (refused, seen))

    def test_what_is_asked(self):
        draw = random.Random(702)
        seen = {"broken": 0, "lost": 0, "price": 0, "none": 0}
        for manual, purse in drawn_houses(703, 50):
            house = House(manual, purse)
            for _ in range(10):
                word, *things = drawn_command(draw, ["x", "y"], house.manual())
                outcome(getattr(house, word), *things)
            for manner in house.manual().manners()[::2]:
                outcome(house.force, [("effect", manner, ("coins", draw.choice([1, 3])))])
            self.judge(house, seen)
        self.assertGreater(min(seen.values()), 0, seen)

    def judge(self, house, seen):
        now, coins, promises = house.manual(), house.purse(), house.promises()
        books = books_up_to(["x", "y"], 4)
        for at, (manual, purse) in enumerate(promises):
            short = [book for book in books if is_served_plainly(manual, book, purse)]
            unserved = [book for book in short if not is_served_plainly(now, book, coins)]
            found = house.broken_book(at)
            self.assertIs(at in house.broken(), found is not None)
            seen["broken"] += found is not None
            if found is None or len(found) > 4:
                self.assertEqual(unserved, [])
            else:
                self.assertIn(found, [book for book in unserved if len(book) == len(unserved[0])])
            if found is not None:
                self.assertTrue(is_unserved_book(manual, now, purse, coins, found) and house.is_broken_book(at, found))
            for book in unserved[:20]:
                self.assertIs(house.is_broken_book(at, book), len(book) == len(found))
        for book in books[:15]:
            first = [at for at, (manual, purse) in enumerate(promises) if is_served_plainly(manual, book, purse)]
            self.assertEqual(house.first_promise(book), first[0] if first else None)
        self.judge_books(house, now, coins, seen)
        self.judge_prices(house, now, promises, seen)

    def judge_books(self, house, now, coins, seen):
        lost = []
        for spot in house.spots():
            book = house.book(spot)
            self.assertEqual(house.need(spot), need_of(now, book))
            self.assertIs(type(house.best_way(spot)), type(least_way(now, book)))
            for way in plain_ways(now, book)[:5] + [house.best_way(spot), None, []]:
                right = type(way) is list and way in plain_ways(now, book) and need_of(now, book) == max(sums(way))
                self.assertIs(house.is_best_way(spot, way), right)
            lost += [] if is_served_plainly(now, book, coins) else [spot]
        self.assertEqual(house.lost(), lost)
        seen["lost"] += len(lost)

    def judge_prices(self, house, now, promises, seen):
        for changes in [[], [("put", ("a", "x", "b", ("coins", 3)))], [("stop", "a"), ("unstart", "a")]]:
            told = outcome(house.price, changes)
            if told[0] != "told":
                self.assertEqual(told, outcome(changed_by, now, changes))
                continue
            price, manual = told[1], changed_by(now, changes)
            seen["none" if price is None else "price"] += 1
            if price is not None:
                self.assertTrue(all(unserved_book(elder, manual, purse, price) is None for elder, purse in promises))
                self.assertLessEqual(price, 40)
            least = 40 if price is None else price - 1
            if least >= 0:
                self.assertTrue(any(unserved_book(elder, manual, purse, least) is not None for elder, purse in promises))
        self.assertEqual(house.least(), house.price([]))

    def test_a_price_up_to_40(self):
        for purse, price in [(12, 36), (12, None)]:
            coins = 3 if price else 0
            manual = Manual([("a", "x", "a", ("coins", 1)), ("a", "y", "a", ("coins", coins))], ["a"], ["a"])
            house = House(manual, purse)
            changes = [("effect", ("a", "x", "a", ("coins", 1)), ("coins", 3))]
            if price is None:
                changes = [("out", ("a", "x", "a", ("coins", 1)))]
            self.assertEqual(house.price(changes), price)
            for most in [12, 0]:
                self.assertEqual(outcome(house.change, changes, most), ("Refused", changes))
        house = House(Manual([("a", "x", "a", ("coins", 1))], ["a"], ["a"]), 4)
        dear = [("effect", ("a", "x", "a", ("coins", 1)), ("coins", 3))]
        self.assertEqual([outcome(house.change, dear, 11)[0], house.change(dear, 12), house.purse()], ["Refused", 12, 12])
        self.assertEqual(house.promises()[1][1], 12)

    def test_spots(self):
        house = made_house(one(), 3, [("enter", ["carry"]), ("enter", []), ("enter", ["rest"]), ("close", 1)])
        self.assertEqual([house.spots(), house.enter(["carry"] * 3)], [[0, 2], 3])
        self.assertEqual(outcome(house.book, 1), ("InvalidSpot", 1))
        house.undo()
        self.assertEqual(house.enter([]), 3)
        with house.trial():
            self.assertEqual([house.enter([]), house.enter([])], [4, 5])
            house.close(4)
        self.assertEqual([house.spots(), house.enter([])], [[0, 2, 3], 4])
        house.close(4)
        self.assertEqual(house.enter([]), 5)
        for spot in [True, False, "0", None, 1, 4, -1, 6, (0,)]:
            for name, things in [("book", []), ("need", []), ("best_way", []), ("is_best_way", [None]), ("close", []),
                                 ("go_on", [None])]:
                self.assertTrue(same(list(outcome(getattr(house, name), spot, *things)), ["InvalidSpot", spot]))

    def test_a_book_that_is_refused_is_named(self):
        house = made_house(one(), 2, [("enter", ["carry"])])
        for name, things in [("enter", [["carry"] * 3]), ("go_on", [0, ["carry"] * 2]), ("enter", [["pray"]])]:
            with self.assertRaises(errors.Refused) as caught:
                getattr(house, name)(*things)
            self.assertIs(caught.exception.value, things[-1])
        self.assertIsNone(house.go_on(0, ["carry"]))
        self.assertEqual(house.book(0), ["carry", "carry"])

    def test_bent_books_and_ways(self):
        house = made_house(one(), 2, [("enter", ["carry", "rest", "carry"]), ("force", TIRED)])
        judged = {True: 0, False: 0}
        for value in bent(house.broken_book(0)) + odd_objects() + books_up_to(["carry", "rest"], 4):
            right = type(value) is list and value.count("carry") + value.count("rest") == 4 == len(value)
            right = right and value.count("carry") == 3 and need_of(one(), value) <= 2
            self.assertIs(house.is_broken_book(0, value), right, repr(value))
            judged[right] += 1
        self.assertGreater(judged[True], 1)
        way = house.best_way(0)
        for value in bent(way) + odd_objects():
            self.assertIs(house.is_best_way(0, value), same(value, way), repr(value))

    def test_a_book_that_can_no_longer_be_done(self):
        house = made_house(one(), 2, [("enter", ["carry", "rest"]), ("enter", ["carry"]), ("force", [("out", FILL)])])
        self.assertEqual([house.need(0), house.best_way(0), house.lost(), house.need(1)], [None, None, [0], 1])
        self.assertEqual([house.is_best_way(0, value) for value in [None, [], [CARRY], [CARRY, FILL]]], [False] * 4)
        self.assertEqual(outcome(house.go_on, 0, []), ("Refused", []))
        self.assertEqual([house.close(0), house.lost(), house.spots()], [None, [], [1]])

    def test_tighten_and_widen(self):
        house = made_house(one(), 2, [("widen", 4)])
        self.assertEqual([house.promises(), house.least()], [[(one(), 2), (one(), 4)], 4])
        for wrong in [4, 3, 13, True, None, "5"]:
            self.assertTrue(same(list(outcome(house.widen, wrong)), ["InvalidCount", wrong]))
        house.force(TIRED)
        self.assertEqual(outcome(house.tighten), ("Refused", 4))
        house = House(Manual([FILL], ["in"], ["in"]), 12)
        self.assertEqual([house.tighten(), house.purse(), house.promises()], [0, 0, [(Manual([FILL], ["in"], ["in"]), 12)]])
        house.undo()
        self.assertEqual(house.purse(), 12)


def sums(way):
    spent = [0]
    for _, _, _, effect in way:
        spent[-1] += effect[1]
        spent += [effect[2]] if effect[0] == "fill" else []
    return spent


class HistoryTest(unittest.TestCase):
    def houses(self, seed, many):
        draw = random.Random(seed)
        for manual, purse in drawn_houses(seed, many):
            house = House(manual, purse)
            self.go_on(draw, house, 6)
            yield draw, house

    def go_on(self, draw, house, many):
        for _ in range(many):
            word, *things = drawn_command(draw, ["x", "y"], house.manual())
            outcome(getattr(house, word), *things)

    def test_undo_and_redo(self):
        for _, house in self.houses(710, 20):
            told = [house_told(house)]
            steps = 0
            while outcome(house.undo) == ("told", None):
                steps += 1
                told.append(house_told(house))
            self.assertEqual(outcome(house.undo), ("NothingToUndo", None))
            self.assertEqual([house.log(), len(house.promises()), house.spots()], [[], 1, []])
            for at in range(steps):
                self.assertEqual(house_told(house), told[steps - at])
                self.assertIsNone(house.redo())
            self.assertEqual(house_told(house), told[0])

    def test_a_new_command_ends_what_can_be_made_again(self):
        house = made_house(one(), 2, [("enter", []), ("enter", ["rest"]), ("undo",)])
        self.assertEqual(outcome(house.enter, ["carry"] * 9)[0], "Refused")
        house.redo()
        house.undo()
        house.enter(["carry"])
        self.assertEqual(outcome(house.redo), ("NothingToRedo", None))
        self.assertEqual(house.log(), [("enter", []), ("enter", ["carry"])])

    def test_asking_and_refused_calls_are_no_commands(self):
        for draw, house in self.houses(711, 15):
            outcome(house.undo)
            kept = house_told(house)
            for name, things in [("price", [[]]), ("least", []), ("lost", []), ("broken", []), ("broken_book", [0]),
                                 ("first_promise", [["x"]]), ("spots", []), ("enter", [["none"]]), ("close", [99]),
                                 ("change", [[], 13]), ("widen", [0]), ("force", [None]), ("log", []), ("copy", []),
                                 ("go_on", [0, None]), ("change", [[("out", ("q", "q", "q", ("coins", 0)))], 3])]:
                outcome(getattr(house, name), *things)
                self.assertEqual(house_told(house), kept, name)

    def test_blocks(self):
        for draw, house in self.houses(712, 30):
            kept = house_told(house)
            with house.trial() as same_house:
                self.assertIs(same_house, house)
                self.go_on(draw, house, 4)
                inner = house_told(house)
                with house.trial():
                    self.go_on(draw, house, 4)
                self.assertEqual(house_told(house), inner)
                outcome(house.undo)
            self.assertEqual(house_told(house), kept)

    def test_a_block_left_by_an_error(self):
        house = made_house(one(), 2, [("enter", []), ("enter", ["rest"]), ("undo",)])
        kept = house_told(house)
        with self.assertRaises(errors.Refused) as caught:
            with house.trial():
                house.enter(["carry"])
                with house.trial():
                    house.force(TIRED)
                    house.tighten()
        self.assertEqual([caught.exception.value, house_told(house)], [2, kept])
        with self.assertRaises(KeyError):
            with house.trial():
                house.widen(7)
                raise KeyError("x")
        self.assertEqual(house_told(house), kept)
        house.redo()

    def test_a_block_begins_when_it_is_entered(self):
        house = made_house(one(), 2, [("enter", [])])
        block = house.trial()
        house.enter(["rest"])
        with block:
            house.undo()
            house.undo()
            self.assertEqual([house.log(), outcome(house.undo)[0]], [[], "NothingToUndo"])
            house.enter(["carry"])
            self.assertEqual(outcome(house.redo)[0], "NothingToRedo")
        self.assertEqual(house.log(), [("enter", []), ("enter", ["rest"])])
        house.undo()
        house.redo()
        self.assertEqual(house.spots(), [0, 1])

    def test_blocks_nested_ten_deep(self):
        house = House(one(), 5)

        def deep(held, depth):
            held.enter([])
            held.widen(held.purse() + 1) if held.purse() < 12 else None
            if depth:
                kept = house_told(held)
                self.assertEqual(held.attempt(lambda again: deep(again, depth - 1)), depth - 1)
                self.assertEqual(house_told(held), kept)
            return depth
        kept = house_told(house)
        self.assertEqual(house.attempt(lambda held: deep(held, 9)), 9)
        self.assertEqual(house_told(house), kept)

    def test_attempt(self):
        house = made_house(one(), 2, [("enter", [])])
        kept, seen, result = house_told(house), [], [["told"]]

        def action(held):
            seen.append(held)
            held.enter(["carry"])
            return result
        self.assertIs(house.attempt(action), result)
        self.assertEqual(len(seen), 1)
        self.assertIs(seen[0], house)
        self.assertEqual(house_told(house), kept)
        self.assertIsNone(house.attempt(action=lambda held: held.close(0)))
        with self.assertRaises(errors.InvalidSpot):
            house.attempt(lambda held: held.close(5))
        self.assertEqual(house_told(house), kept)

    def test_copies(self):
        for draw, house in self.houses(713, 20):
            kept = house_told(house)
            other = house.copy()
            self.assertIsNot(other, house)
            self.assertTrue(house == house and other == other)
            self.assertEqual(house_told(other), kept)
            self.go_on(draw, other, 5)
            self.assertEqual(house_told(house), kept)
            moved = house_told(other)
            self.go_on(draw, house, 5)
            self.assertEqual(house_told(other), moved)

    def test_a_copy_made_in_a_block_is_in_no_block(self):
        house = made_house(one(), 2, [("enter", [])])
        with house.trial():
            house.enter(["rest"])
            house.undo()
            other = house.copy()
            other.redo()
        self.assertEqual([other.log(), house.log()], [[("enter", []), ("enter", ["rest"])], [("enter", [])]])
        other.undo()
        other.undo()
        self.assertEqual(house.spots(), [0])

    def test_nothing_is_hung_on(self):
        book, changes = ["carry"], list(CHEAP)
        house = made_house(one(), 4, [("enter", book), ("go_on", 0, book), ("force", changes), ("undo",), ("change", changes, 12)])
        book.append("pray")
        changes.clear()
        kept = house_told(house)
        for told in [house.log(), house.promises(), house.spots(), house.book(0), house.best_way(0), house.lost(),
                     house.broken(), house_told(house)]:
            spoil(told)
        self.assertEqual(house_told(house), kept)
        self.assertEqual(house.book(0), ["carry", "carry"])
        self.assertEqual(house.log()[2], ("change", CHEAP, 12))


class ReplayedTest(unittest.TestCase):
    def test_logs_are_played_again(self):
        draw = random.Random(720)
        for manual, purse in drawn_houses(721, 25):
            house = House(manual, purse)
            for _ in range(12):
                word, *things = drawn_command(draw, ["x", "y"], house.manual())
                outcome(getattr(house, word), *things)
            fresh = House(manual, purse)
            again = replayed(fresh, house.log())
            self.assertEqual(house_told(again)[:5], house_told(house)[:5])
            self.assertEqual(house_told(fresh), house_told(House(manual, purse)))
            while again.log():
                again.undo()
            self.assertEqual(house_told(again)[:4], house_told(fresh)[:4])

    def test_a_log_is_made_behind(self):
        house = made_house(one(), 2, [("enter", ["rest"]), ("enter", []), ("undo",)])
        kept = house_told(house)
        again = replayed(house, [("enter", ["carry"]), ("tighten",)])
        self.assertEqual(again.log(), [("enter", ["rest"]), ("enter", ["carry"]), ("tighten",)])
        self.assertEqual([again.spots(), house_told(house)], [[0, 1], kept])
        self.assertEqual(house_told(replayed(house, [])), kept)

    def test_wrong_logs(self):
        house = House(one(), 2)
        right = ("enter", [])
        for wrong in [None, (right,), [list(right)], [("enter",)], [("enter", [], 1)], [("tighten", 1)], [("undo",)], [("try", [])],
                      [("price", [])], [()], [(1,)], [(["enter"], [])], [right, "tighten"], {}, [("go_on", 0)], [("change", [])],
                      [("close",)], [("close", None), None], [("Enter", [])], [(None, [])]]:
            with self.assertRaises(errors.InvalidLog) as caught:
                replayed(house, wrong)
            self.assertIs(caught.exception.value, wrong)
            with self.assertRaises(errors.InvalidHouse) as caught:
                replayed(one(), wrong)

    def test_the_first_error_of_a_log(self):
        house = House(one(), 2)
        kept = house_told(house)
        for log, error, value in [([("enter", []), ("close", 1), ("enter", None)], "InvalidSpot", 1),
                                  ([("enter", None), ("close", 1)], "InvalidBook", None),
                                  ([("change", None, None)], "InvalidChanges", None), ([("change", [], None)], "InvalidCount", None),
                                  ([("widen", 2)], "InvalidCount", 2), ([("force", TIRED), ("tighten",)], "Refused", 2),
                                  ([("go_on", {}, 1)], "InvalidSpot", {}), ([("force", [("start", "in")])], "InvalidChange", ("start", "in"))]:
            self.assertEqual(outcome(replayed, house, log), (error, value))
            self.assertEqual(house_told(house), kept)


class LimitsOfAHouseTest(unittest.TestCase):
    def test_forty_commands_eight_books_and_five_promises(self):
        house = House(one(), 0)
        for purse in [3, 6, 9, 12]:
            house.widen(purse)
        for at in range(8):
            house.enter(["carry"] * at)
        for at in range(20):
            house.go_on(at % 8, ["rest"])
        for at in range(8):
            house.close(at)
        self.assertEqual([len(house.log()), len(house.promises()), house.spots()], [40, 5, []])
        for _ in range(40):
            house.undo()
        for _ in range(32):
            house.redo()
        self.assertEqual([house.spots(), house.need(7), house.least()], [list(range(8)), 7, 12])
        self.assertEqual(house_told(replayed(House(one(), 0), house.log()))[:5], house_told(house)[:5])

    def test_wrong_purses(self):
        for wrong in [13, -1, True, None, "1", 10 ** 29]:
            self.assertTrue(same(list(outcome(House, one(), wrong)), ["InvalidCount", wrong]))
            self.assertTrue(same(list(outcome(House, None, wrong)), ["InvalidManual", None]))
            house = House(one(), 12)
            for function, things in [(house.broken_book, [wrong]), (house.is_broken_book, [wrong, None])]:
                self.assertTrue(same(list(outcome(function, *things)), ["InvalidCount", wrong]))
        self.assertEqual(outcome(House(one(), 12).broken_book, 1), ("InvalidCount", 1))

    def test_bounds_of_promises_tell_the_price(self):
        for manual, purse in drawn_houses(730, 20):
            house = House(manual, purse)
            self.assertEqual(house.least(), bound_at(manual, manual, purse))
            self.assertEqual(jobs_of(house.manual()), jobs_of(manual))


if __name__ == "__main__":
    unittest.main()
