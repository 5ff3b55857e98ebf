"""Points 112 to 115, against methods called one by one and texts written by hand."""

import random
import unittest

from tests import plain_texts as plain
from tests.anything import bent, odd_objects, same, spoil, twin
from tests.plain import is_plain_change, is_plain_count, is_plain_word
from tests.plain_house import drawn_changes, drawn_command, house_told, made_house, outcome
from tests.test_house import CHEAP, FILL, TIRED, drawn_houses, one
from withinbooks import errors
from withinbooks.house import House
from withinbooks.scripts import end_of, play, read_script, script_text, shortened

BOOK_WORDS = {"enter": ["book"], "go_on": ["count", "book"], "close": ["count"], "change": ["changes", "count"],
              "force": ["changes"], "widen": ["count"], "price": ["changes"], "need": ["count"], "tighten": [], "least": [],
              "lost": [], "broken": [], "undo": [], "redo": [], "try": ["script"]}


def is_plain_script(value):
    return type(value) is list and all(is_plain_command(command) for command in value)


def is_plain_command(value):
    """Point 112, word by word."""
    if type(value) is not tuple or not value or type(value[0]) is not str or value[0] not in BOOK_WORDS:
        return False
    kinds = BOOK_WORDS[value[0]]
    judges = {"count": is_plain_count, "script": is_plain_script,
              "book": lambda thing: type(thing) is list and all(is_plain_word(job) for job in thing),
              "changes": lambda thing: type(thing) is list and all(is_plain_change(change) for change in thing)}
    return len(value) == len(kinds) + 1 and all(judges[kind](thing) for kind, thing in zip(kinds, value[1:]))


def drawn_script(draw, manual, size, depth=2):
    """A script of about so many commands."""
    script = []
    for _ in range(size):
        kind = draw.random()
        if kind < 0.1 and depth:
            script.append(("try", drawn_script(draw, manual, draw.randrange(4), depth - 1)))
        elif kind < 0.3:
            script.append(draw.choice([("least",), ("lost",), ("broken",), ("need", draw.randrange(3)),
                                       ("price", drawn_changes(draw, manual))]))
        else:
            script.append(drawn_command(draw, ["x", "y"], manual))
    return script


def plain_play(house, script):
    """What is said, by the methods called one by one."""
    said = []
    for word, *things in script:
        if word == "try":
            kept = house_told(house)
            with house.trial():
                told = ("tried", plain_play(house, things[0]))
            assert house_told(house) == kept
        else:
            kind, told = outcome(getattr(house, word), *things)
            names = {"enter": "entered", "change": "purse", "tighten": "purse", "price": "purse", "least": "purse",
                     "need": "need", "lost": "lost", "broken": "broken"}
            if kind != "told":
                told = ("refused", kind)
            else:
                told = (names[word], told) if word in names else ("done",)
        said.append(told)
    return said


def plain_end(manual, purse, script):
    house = House(manual, purse)
    plain_play(house, script)
    return (house.manual(), house.purse(), {spot: house.book(spot) for spot in house.spots()})


class PlayTest(unittest.TestCase):
    def test_play(self):
        draw = random.Random(810)
        words = {}
        for manual, purse in drawn_houses(811, 60):
            script = drawn_script(draw, manual, 14)
            house, second = House(manual, purse), House(manual, purse)
            kept = twin(script)
            said = play(house, script)
            self.assertTrue(same(said, plain_play(second, script)))
            self.assertEqual(house_told(house), house_told(second))
            self.assertTrue(same(script, kept))
            for one_said in said:
                key = one_said[1] if one_said[0] == "refused" else one_said[0]
                words[key] = words.get(key, 0) + 1
        for word in ["entered", "purse", "need", "lost", "broken", "tried", "done", "InvalidSpot", "InvalidChange", "InvalidCount",
                     "Refused", "NothingToUndo", "NothingToRedo"]:
            self.assertGreater(words.get(word, 0), 0, (word, words))

    def test_every_error_is_said(self):
        house = House(one(), 2)
        script = [("undo",), ("redo",), ("close", 0), ("enter", ["carry"] * 3), ("change", [("start", "in")], 3), ("change", [], 13),
                  ("widen", 2), ("force", [("out", ("in", "x", "in", ("coins", 0)))]), ("force", TIRED), ("tighten",), ("need", 7)]
        words = ["NothingToUndo", "NothingToRedo", "InvalidSpot", "Refused", "InvalidChange", "InvalidCount", "InvalidCount",
                 "InvalidChange", None, "Refused", "InvalidSpot"]
        self.assertEqual(play(house, script), [("refused", word) if word else ("done",) for word in words])

    def test_tries(self):
        house = made_house(one(), 2, [("enter", ["rest"]), ("enter", []), ("undo",)])
        kept = house_told(house)
        script = [("try", [("enter", []), ("try", [("force", CHEAP), ("undo",), ("undo",), ("undo",), ("undo",)]), ("lost",)]), ("redo",)]
        self.assertEqual(play(house, script[:1]), [("tried", [("entered", 1), ("tried", [("done",)] * 4 + [("refused", "NothingToUndo")]),
                                                              ("lost", [])])])
        self.assertEqual(house_told(house), kept)
        self.assertEqual(play(house, script)[1:], [("done",)])
        self.assertEqual(house.spots(), [0, 1])

    def test_wrong_scripts(self):
        judged = {True: 0, False: 0}
        right = [("enter", ["x"]), ("go_on", 0, ["y"]), ("change", CHEAP, 3), ("try", [("need", 0), ("try", [])]), ("tighten",)]
        values = odd_objects() + bent(right) + [[("enter", ["x"], 1)], [("undo", 1)], [["undo"]], [("log",)], [("copy",)], [("trial",)],
                                                [("close", True)], [("price", [], 3)], [("change", 3, [])], [("try", ())], [("attempt", [])],
                                                [("promises",)], [("spots",)], [("go_on", ["x"], 0)], [("least", [])], [("need",)]]
        for value in values:
            judged[is_plain_script(value)] += 1
            calls = [(play, [House(one(), 0), value]), (script_text, [value]), (end_of, [one(), 1, value]), (shortened, [one(), 1, value])]
            for function, passed in calls:
                told = outcome(function, *passed)
                self.assertIs(told[0] == "InvalidScript", not is_plain_script(value), repr(value))
                self.assertTrue(told[0] == "told" or told[1] is value)
        self.assertGreater(min(judged.values()), 40)
        house = House(one(), 1)
        outcome(play, house, [("enter", []), ("undo",), ("enter",)])
        self.assertEqual(house_told(house), house_told(House(one(), 1)))

    def test_what_is_said_is_new(self):
        house = House(one(), 1)
        script = [("enter", ["carry"]), ("force", list(TIRED)), ("lost",), ("broken",), ("try", [("lost",)])]
        first = play(house, script)
        kept = twin(first)
        spoil(first)
        spoil(script)
        self.assertEqual(house.book(0), ["carry"])
        self.assertEqual(house.log(), [("enter", ["carry"]), ("force", TIRED)])
        again = [("enter", ["carry"]), ("force", TIRED), ("lost",), ("broken",), ("try", [("lost",)])]
        self.assertEqual(play(House(one(), 1), again), kept)


class TextsTest(unittest.TestCase):
    def test_texts(self):
        draw = random.Random(820)
        read = 0
        for at, (manual, _) in enumerate(drawn_houses(821, 60)):
            script = drawn_script(draw, manual, at % 7, 4)
            text = plain.plain_script_text(script)
            self.assertEqual(script_text(script), text)
            self.assertTrue(same(read_script(text), script))
            if at % 4 == 0:
                read += self.bend(text)
        self.assertGreater(read, 200)

    def bend(self, text):
        read = 0
        for value in plain.bent_texts(text):
            try:
                told = read_script(value)
            except errors.InvalidText as caught:
                self.assertIs(caught.value, value)
            else:
                self.assertTrue(is_plain_script(told) and script_text(told) == value, repr(value))
                read += 1
        return read

    def test_a_text_by_hand(self):
        script = [("enter", []), ("go_on", 10, ["end", "enter"]), ("change", CHEAP + [("stop", "end")], 10 ** 29),
                  ("try", [("force", []), ("try", [("try", []), ("widen", 0)]), ("redo",)]), ("price", [("effect", FILL, ("coins", 2))])]
        text = "\n".join(["enter", "go_on 10 end enter", "change 1" + "0" * 29, "  put in carry in coins 0", "  stop end", "end", "try",
                          "  force", "  end", "  try", "    try", "    end", "    widen 0", "  end", "  redo", "end", "price",
                          "  effect in rest in fill 0 0 coins 2", "end"])
        self.assertEqual(script_text(script), text)
        self.assertTrue(same(read_script(text), script))
        self.assertEqual([script_text([]), read_script("")], ["", []])
        self.assertGreater(self.bend(text), 50)

    def test_texts_that_are_no_scripts(self):
        for text in ["\n", "end", "try", "try\n", "try\n  undo", "try\nundo\nend", "try\n   undo\nend", "try\n undo\nend", "try\n  undo\n end",
                     "try\n  undo\nend\n", "undo ", " undo", "undo\n\nredo", "undo 1", "widen", "widen 01", "widen 1 2", "widen -1", "widen x",
                     "close 0 x", "need", "go_on", "go_on x", "go_on 00", "change\nend", "change 1", "change x\nend", "change 1 2\nend",
                     "force 1\nend", "force\n  put\nend", "force\n  undo\nend", "price\nstart in\nend", "enter 1", "enter  x", "enter X",
                     "try 1\nend", "try\n  try\nend", "try\n  try\n  end", "log", "Undo", "undo\r\nredo", "  undo", "try\n\nend",
                     "widen " + "9" * 5000]:
            with self.assertRaises(errors.InvalidText) as caught:
                read_script(text)
            self.assertIs(caught.exception.value, text)
        for value in odd_objects():
            if type(value) is not str or value == "A" or value == "a":
                self.assertIs(outcome(read_script, value)[1], value)
                self.assertEqual(outcome(read_script, value)[0], "InvalidText")


class EndsTest(unittest.TestCase):
    def test_end_of(self):
        draw = random.Random(830)
        for manual, purse in drawn_houses(831, 40):
            script = drawn_script(draw, manual, 8)
            told = end_of(manual, purse, script)
            self.assertTrue(same([type(told), told[1], told[2]], [tuple] + list(plain_end(manual, purse, script)[1:])))
            self.assertTrue(told[0] == plain_end(manual, purse, script)[0])
            self.assertEqual(list(told[2]), sorted(told[2]))

    def test_shortened(self):
        draw = random.Random(832)
        sizes = {}
        for manual, purse in drawn_houses(833, 60):
            script = drawn_script(draw, manual, 8)
            left = list(script)
            for at in reversed(range(len(script))):
                less = left[:at] + left[at + 1:]
                if plain_end(manual, purse, less) == plain_end(manual, purse, script):
                    left = less
            told = shortened(manual, purse, script)
            self.assertTrue(same(told, left))
            sizes[len(told)] = sizes.get(len(told), 0) + 1
        self.assertGreater(len(sizes), 4)

    def test_refused_arguments(self):
        script = [("enter", ["carry"])]
        for function in [end_of, shortened]:
            self.assertEqual(outcome(function, None, None, None), ("InvalidManual", None))
            for purse in [13, True, None, -1]:
                self.assertTrue(same(list(outcome(function, one(), purse, None)), ["InvalidCount", purse]))
            self.assertEqual(outcome(function, one(), 12, None), ("InvalidScript", None))
            self.assertEqual(outcome(function, one(), 12, script)[0], "told")
        for value in [None, one(), [], House]:
            self.assertEqual(outcome(play, value, None)[0], "InvalidHouse")

    def test_results_are_new(self):
        script = [("enter", ["carry"]), ("try", [("enter", ["rest"])]), ("force", list(CHEAP))]
        told = shortened(one(), 1, script)
        self.assertEqual(told, [script[0], script[2]])
        spoil(told)
        spoil(end_of(one(), 1, script)[2])
        self.assertEqual(script, [("enter", ["carry"]), ("try", [("enter", ["rest"])]), ("force", CHEAP)])
        self.assertEqual(end_of(one(), 1, script)[1:], (1, {0: ["carry"]}))


if __name__ == "__main__":
    unittest.main()
