"""Arguments of the functions of the interface, and what may be wrong with them.

An argument is a dictionary of its name, a function that makes right values, the class of
its error (None for `value`), a function that makes wrong values in addition to the odd
objects, one that tells which of the odd objects are right, and, as "most", up to which
number the call has to end (None if there is no such number).
"""

from tests.anything import CARRY, REST, odd_objects
from tests.plain import is_plain_change, is_plain_count, is_plain_effect, is_plain_manner, is_plain_word
from tests.plain_cards import (
    is_plain_card, is_plain_expression, is_plain_mark, is_plain_rests, plain_leaves, plain_table)
from tests.plain_clerks import plain_rule_choices
from tests.plain_exchange import is_plain_open
from tests.plain_mending import plain_mended
from withinbooks import errors
from withinbooks.house import House
from withinbooks.manuals import Manual

AWAY, STAY = ("in", "carry", "out", ("coins", 0)), ("out", "rest", "out", ("coins", 0))


def first_manual():
    return Manual([REST, CARRY], ["in"], ["in"])


def second_manual():
    return Manual([CARRY, REST, AWAY, STAY], ["in"], ["out", "in"])


def is_list_of(judge, unlike):
    def judged(value):
        if type(value) is not list or not all(judge(thing) for thing in value):
            return False
        return not unlike or all(value.count(thing) == 1 for thing in value)
    return judged


def is_manual(value):
    return type(value) is Manual


def argument(name, right, error, wrong=(), judge=None, most=None):
    return {"name": name, "right": right, "error": error, "wrong": lambda: list(wrong), "judge": judge, "most": most}


def wrong_values(asked):
    """Odd objects, and others, that an argument must not be."""
    return asked["wrong"]() + [value for value in odd_objects() if not asked["judge"](value)]


def odd_right_values(asked):
    """The odd objects that an argument may be, but numbers far beyond the limit, for which no call need end."""
    values = [value for value in odd_objects() if asked["judge"](value)]
    return [value for value in values if asked["most"] is None or value <= asked["most"]]


def right_values(arguments):
    return [asked["right"]() for asked in arguments]


ELDER = argument("elder", first_manual, errors.InvalidManual, judge=is_manual)
NEWER = argument("newer", second_manual, errors.InvalidManual, judge=is_manual)
MANUAL = argument("manual", second_manual, errors.InvalidManual, judge=is_manual)
ONE, OTHER = {**ELDER, "name": "one"}, {**NEWER, "name": "other"}
VALUE = argument("value", lambda: [], None)
BOOK = argument("book", lambda: ["carry", "rest", "carry"], errors.InvalidBook,
                judge=is_list_of(is_plain_word, False))
PURSE = argument("purse", lambda: 1, errors.InvalidCount, judge=is_plain_count)
LOW_PURSE = argument("purse", lambda: 0, errors.InvalidCount, judge=is_plain_count)
EFFECT = argument("effect", lambda: ("coins", 2), errors.InvalidEffect, judge=is_plain_effect)
OTHER_EFFECT = argument("other", lambda: ("fill", 1, 0), errors.InvalidEffect, judge=is_plain_effect)
AHEAD = argument("ahead", lambda: 3, errors.InvalidCount, judge=is_plain_count)
BEHIND = argument("behind", lambda: 0, errors.InvalidCount, judge=is_plain_count)
ROOM = argument("room", lambda: "in", errors.InvalidRoom, ["inn", "carry"], lambda value: value in ["in", "out"])
JOB = argument("job", lambda: "carry", errors.InvalidWord, judge=is_plain_word)
MISFITS = [("put", CARRY), ("out", ("in", "carry", "in", ("coins", 2))), ("effect", CARRY, ("coins", 1)),
           ("effect", ("out", "carry", "in", ("coins", 1)), ("coins", 1)), ("start", "in"), ("unstart", "out"),
           ("stop", "out"), ("stop", "in"), ("unstop", "inn")]
CHANGE = argument("change", lambda: ("put", ("in", "deal", "in", ("coins", 3))), errors.InvalidChange, MISFITS,
                  lambda value: is_plain_change(value) and value not in MISFITS)
CHANGES = argument("changes", lambda: [("start", "out"), ("out", CARRY)], errors.InvalidChanges,
                   [(("start", "out"),), [("start", "out"), None], [["start", "out"]]],
                   is_list_of(is_plain_change, False))
MANNER = argument("manner", lambda: STAY, errors.InvalidManner, [("out", "rest", "out", ("coins", 1)), list(STAY)],
                  lambda value: is_plain_manner(value) and value in second_manual().manners())
WAY = argument("way", lambda: [CARRY, REST, AWAY, STAY], errors.InvalidWay,
               [[STAY], [AWAY, CARRY], (CARRY,), [CARRY, list(REST)], [CARRY, ("in", "rest", "in", ("fill", 0, 1))]],
               lambda value: value in [[], [CARRY], [REST], [CARRY, REST], [CARRY, CARRY]])
SIZE = argument("size", lambda: 2, errors.InvalidCount, judge=is_plain_count, most=40)
NUMBER = argument("number", lambda: 3, errors.InvalidCount, [4, 5],
                  judge=lambda value: is_plain_count(value) and value < 4)
MANNERS = argument("manners", lambda: [REST, CARRY], errors.InvalidManners, [[REST, CARRY, REST], (REST, CARRY)],
                   is_list_of(is_plain_manner, True))
BEGINNINGS = argument("beginnings", lambda: ["out", "in"], errors.InvalidRooms, [["a", "a"], ("a",), ["in", "In"]],
                      is_list_of(is_plain_word, True))
ENDS = {**BEGINNINGS, "name": "ends"}

MARK = argument("one", lambda: "some", errors.InvalidMark, ["Full", "bounded", ("free",)], is_plain_mark)
OTHER_MARK = {**MARK, "name": "other"}
TWO_ROOMS_CARD = (("some", "free"), ("never", "never"))
CARD = argument("card", lambda: TWO_ROOMS_CARD, errors.InvalidCard,
                [list(TWO_ROOMS_CARD), (["some", "free"], ["never", "never"]), TWO_ROOMS_CARD + (("never", "never"),),
                 (("some", "free"), ("never", True)), (("some", "free"), ("never",)), (("some", "free"),)],
                lambda value: is_plain_card(value, 2))
ONE_CARD, OTHER_CARD = {**CARD, "name": "one"}, {**CARD, "name": "other"}
LEAST_CARD = {**CARD, "judge": lambda value: is_plain_card(value, 2) and value in plain_table(second_manual())}
OTHER_ROOM = {**ROOM, "name": "other"}
EXPRESSION = argument("expression", lambda: ("row", ["carry", ("again", "rest")]), errors.InvalidExpression,
                      [("row", ("carry",)), ["row", ["carry"]], ("row", ["carry", ["rest"]]), ("again", "carry", "rest"),
                       ("row", ["carry", ("again", ("place",))]), ("row", ["carry", None])], is_plain_expression)
OPEN_EXPRESSION = argument("expression", lambda: ("row", ["carry", ("again", ("place",)), "carry"]),
                           errors.InvalidExpression, [("row", ("carry",)), ["place"], ("place", "carry"), ("again",)],
                           lambda value: is_plain_expression(value, True))
MANUALS = argument("manuals", lambda: [first_manual(), second_manual()], errors.InvalidManuals,
                   [(first_manual(),), [first_manual(), None], [[first_manual()]], []],
                   lambda value: type(value) is list and len(value) > 0 and all(is_manual(one) for one in value))
WRITING_NUMBER = argument("number", lambda: 1, errors.InvalidCount, judge=is_plain_count)
REST_PURSE = argument("purse", lambda: 1, errors.InvalidCount, judge=is_plain_count, most=12)
LEFT = argument("left", lambda: (1, "short"), errors.InvalidRests,
                [[1, "short"], (1, "short", 0), (1,), (2, "short"), (True, "short"), (1, "Short"), (1, None), (-1, 0)],
                lambda value: is_plain_rests(value, 2, 1))

SECOND_PURSE = {**REST_PURSE, "name": "other", "most": 40}
STEP_PURSE = {**REST_PURSE, "most": 3}
ABOVE_PURSE = {**REST_PURSE, "right": lambda: 0}
EDITIONS = {**MANUALS, "name": "editions"}
GROWING = {**EXPRESSION, "right": lambda: ("row", ["rest", ("again", "carry"), ("again", "rest")])}


def freed_manual():
    """A manual for all of whose books one purse serves, so that it can be told whether any needs more."""
    return Manual([CARRY[:3] + (("coins", 0),), REST], ["in"], ["in"])


def stray_manual():
    """A manual that does not stay within the first one."""
    return Manual([CARRY, ("in", "rest", "in", ("coins", 0))], ["in"], ["in"])


ELDER_CALM = {**ELDER, "right": freed_manual}
STRAY = {**NEWER, "right": stray_manual}
LOT_OF_JOBS = argument("lot", lambda: ["carry", "pray"], errors.InvalidLot,
                       [["rest", "carry"], ["carry", "carry"], ("carry",), ["carry", 1]],
                       lambda value: is_list_of(is_plain_word, True)(value) and value == sorted(value))
SPENDING = argument("lot", lambda: [CARRY], errors.InvalidLot, [[CARRY, CARRY], (CARRY,), [AWAY], [CARRY, AWAY], [REST]],
                    lambda value: value in [[], [CARRY]])
FILLING = {**SPENDING, "right": lambda: [REST], "wrong": lambda: [[REST, REST], (REST,), [AWAY], [CARRY, REST], [CARRY]],
           "judge": lambda value: value in [[], [REST]]}
MOVES = argument("changes", lambda: [("effect", REST, ("coins", 0)), ("effect", CARRY, ("coins", 0)), ("start", "in")],
                 errors.InvalidChanges, [(("start", "out"),), [("start", "out"), None], [["start", "out"]]],
                 is_list_of(is_plain_change, False))
PLACES = argument("lot", lambda: [0, 1], errors.InvalidLot, [[1, 0], [0, 0], (0, 1), [0, 3], [-1], [True], [0, True]],
                  lambda value: is_list_of(is_plain_count, True)(value) and value in [
                      [], [0], [1], [2], [0, 1], [0, 2], [1, 2], [0, 1, 2]])


OWN_EXPRESSION = argument(
    "one", lambda: ("row", ["carry", ("again", "rest")]), errors.InvalidExpression,
    ["pray", ("row", ["carry", "pray"]), ("row", ("carry",)), ("again", ("place",)), ("row", [["carry"]])],
    lambda value: is_plain_expression(value) and set(plain_leaves(value)) <= {"carry", "rest"})
OTHER_EXPRESSION = {**OWN_EXPRESSION, "name": "other", "right": lambda: ("again", "carry")}
FRAME = argument("frame", lambda: ("row", [("place",), "carry", ("again", ("row", [("place",)]))]),
                 errors.InvalidExpression, ["carry", ("row", ["carry"]), ["place"], ("row", (("place",),))], is_plain_open)
OWN_BOOK = argument("one", lambda: ["carry", "rest"], errors.InvalidBook, [[], ["carry", "pray"], ("carry",), ["carry", 1]],
                    lambda value: is_list_of(is_plain_word, False)(value) and value and set(value) <= {"carry", "rest"})
OTHER_BOOK = {**OWN_BOOK, "name": "other", "right": lambda: ["rest", "carry"]}
GOAL = {**ROOM, "name": "goal", "right": lambda: "out"}
SPENT_AHEAD = {**AHEAD, "most": 30}
SPENT_BEHIND = {**BEHIND, "most": 30}
SEEN_AHEAD = argument("ahead", lambda: 1, errors.InvalidCount, [3, 4, True], lambda value: is_plain_count(value) and value <= 2)
MOST_AHEAD = {**SEEN_AHEAD, "name": "most"}
CLERK_PURSE = {**REST_PURSE, "right": lambda: 2}
CALM = {**MANUAL, "right": freed_manual}
CLERK_TABLE = argument(
    "table", lambda: [("", (), ("in",), 1), ("", ("carry",), ("in",), 1), ("", ("rest",), ("in",), 0),
                      ("in", ("carry",), ("in",), 0), ("in", ("rest",), ("in",), 0)],
    errors.InvalidTable, [[("", (), ("in",), 1)], [("in", ("carry",), ("in",), 0)]], lambda value: False)
RULE = argument("rule", lambda: {key: manners[0] for key, manners in plain_rule_choices(second_manual()).items()},
                errors.InvalidRule, [{("", ("in",), "carry"): CARRY}], lambda value: False)
OPEN_FILL = ("in", "rest", "in", ("fill", 0, 1))
FULL_ONE = {**ONE, "wrong": lambda: [Manual([OPEN_FILL], ["in"], ["in"])]}
FULL = {**MANUAL, "wrong": lambda: [Manual([OPEN_FILL, CARRY], [], ["in"])]}
MOST_UNLIKE = argument("most", lambda: 2, errors.InvalidCount, [5, 12], lambda value: is_plain_count(value) and value <= 4)
MANY = argument("many", lambda: 1, errors.InvalidCount, [13, 40], lambda value: is_plain_count(value) and value <= 12)

MENDED_BOOK = {**BOOK, "right": lambda: ["carry", "rest"]}
MENDING = argument("mending", lambda: [("keep",), ("put", "x"), ("exchange", "carry")], errors.InvalidMending,
                   [[("keep",)], [("keep",)] * 3, (("keep",), ("keep",)), [("exchange", "carry"), ("keep",)], [["keep"], ("keep",)]],
                   lambda value: plain_mended(["carry", "rest"], value) is not None)
STOPS = argument("stops", lambda: ["rest", "pray"], errors.InvalidBook, [["rest", "rest"], ("rest",), [["rest"]]],
                 is_list_of(is_plain_word, True))


def is_any_card(value):
    return type(value) is tuple and is_plain_card(value, len(value))


def asked_house():
    """A house of two promises and a book, with a command that can be made again."""
    house = House(Manual([CARRY, REST], ["in"], ["in"]), 1)
    house.widen(2)
    house.enter(["carry", "rest"])
    house.enter(["rest"])
    house.undo()
    return house


def is_log(value):
    sizes = {"enter": 2, "go_on": 3, "close": 2, "change": 3, "force": 2, "widen": 2, "tighten": 1}
    return type(value) is list and all(type(one) is tuple and one and type(one[0]) is str and one[0] in sizes
                                       and len(one) == sizes[one[0]] for one in value)


def is_text_of(judge, parts):
    """A judge of texts of lists, the parts of which are put apart by a string."""
    def judged(value):
        return type(value) is str and (value == "" or all(judge(part) for part in value.split(parts)))
    return judged


def is_script_of_odd_objects(value):
    """Whether an odd object is a script: its lists of commands are few."""
    return value in [[], [("enter", [])], [("enter", ["carry"])], [("tighten",)], [("undo",)], [("close", 0)],
                     [("widen", 1), ("tighten",)], [("change", [], 1)], [("try", [("lost",)])]] and "True" not in repr(value)


HOUSE_PURSE = argument("purse", lambda: 2, errors.InvalidCount, [13, 40], lambda value: is_plain_count(value) and value <= 12)
HOUSE = argument("house", asked_house, errors.InvalidHouse, [House], lambda value: type(value) is House)
LOG = argument("log", lambda: [("go_on", 0, ["rest"]), ("widen", 3)], errors.InvalidLog,
               [(("tighten",),), [("tighten", 1)], [("enter",)], [("lost",)], [("go_on", 0)]], is_log)
SCRIPT = argument("script", lambda: [("need", 0), ("try", [("enter", ["rest"]), ("close", 0)]), ("price", []), ("lost",)],
                  errors.InvalidScript, [(("lost",),), [("lost", 1)], [("go_on", 0)], [("try", [("log",)])]],
                  is_script_of_odd_objects)
PLAYED = {**SCRIPT, "right": lambda: [("enter", ["carry"]), ("force", [("start", "out")]), ("try", [("close", 0)]), ("lost",)]}
CHANGE_FORM = {**CHANGE, "wrong": lambda: [("start", "in", "in"), ["start", "in"]], "judge": is_plain_change}
CARDS = argument("table", lambda: [TWO_ROOMS_CARD, (("some",),), ()], errors.InvalidTable,
                 [(TWO_ROOMS_CARD,), [list(TWO_ROOMS_CARD)], [(("some", "free"),)]], is_list_of(is_any_card, False))
CARD_PAIRS = argument("table", lambda: [(TWO_ROOMS_CARD, ()), ((("some",),), (("free",),))], errors.InvalidTable,
                      [[TWO_ROOMS_CARD + ((),)], [[(), ()]], [((), (), ())]],
                      is_list_of(lambda one: type(one) is tuple and len(one) == 2 and all(map(is_any_card, one)), False))
MANUAL_TEXT = argument("text", lambda: "in carry in coins 1\nbegins in\nends in", errors.InvalidText,
                       ["begins in\nends in\n", "ends\nbegins"], lambda value: value == "begins\nends")
CHANGE_TEXT = argument("text", lambda: "put in carry in coins 1", errors.InvalidText, ["put in", "start  in"], lambda value: False)
BOOK_TEXT = argument("text", lambda: "carry rest", errors.InvalidText, ["carry  rest", " ", "carry\nrest"],
                     is_text_of(is_plain_word, " "))
EXPRESSION_TEXT = argument("text", lambda: "( carry ? ( rest ) * )", errors.InvalidText, ["", "(", "( carry", "* carry"],
                           lambda value: is_plain_word(value) or value in ("?", "( carry )"))
TABLE_TEXT = argument("text", lambda: "free never / full some\n-", errors.InvalidText, ["free never", "\n", "free / free"],
                      lambda value: type(value) is str and (value in ("", "-", "free\nsome") or is_plain_mark(value)))
PAIRS_TEXT = argument("text", lambda: "free | -\n- | some", errors.InvalidText, ["free", "free |", "- | - | -"],
                      lambda value: type(value) is str and value in ("", "- | -"))
SCRIPT_TEXT = argument("text", lambda: "enter carry\ntry\n  lost\nend", errors.InvalidText, ["try", "lost ", "\n"],
                       lambda value: type(value) is str and value in ("", "undo"))

AT = argument("at", lambda: 1, errors.InvalidCount, [2, 3], lambda value: is_plain_count(value) and value < 2)
SPOT = argument("spot", lambda: 0, errors.InvalidSpot, [1, 2], lambda value: type(value) is int and value == 0)
ENTERED = {**BOOK, "right": lambda: ["carry", "rest"]}
HOUSE_CHANGES = {**CHANGES, "right": lambda: [("start", "out")]}
MOST_PURSE = argument("most", lambda: 2, errors.InvalidCount, [13], lambda value: is_plain_count(value) and value <= 12)
WIDER = argument("purse", lambda: 4, errors.InvalidCount, [2, 13], lambda value: is_plain_count(value) and 2 < value <= 12)
ACTION = argument("action", lambda: len, None)
