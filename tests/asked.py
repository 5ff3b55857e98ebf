"""Every function of the interface that has landed: its arguments, and what may be wrong with them.

An argument is a tuple of its name, a function that makes right values, the class of its
error (None for `value`), and a function that makes wrong values in addition to the odd
objects, and one that tells which of the odd objects are right.
"""

from tests.anything import CARRY, REST, odd_objects
from tests.plain import is_plain_change, is_plain_count, is_plain_effect, is_plain_manner, is_plain_word
from withinbooks import books, doing, errors, manuals
from withinbooks.manuals import Manual

AWAY, STAY = ("in", "carry", "out", ("coins", 0)), ("out", "rest", "out", ("coins", 0))


def first_manual():
    return Manual([REST, CARRY], ["in"], ["in"])


def second_manual():
    return Manual([CARRY, REST, AWAY, STAY], ["in"], ["out", "in"])


def is_list_of(judge, unlike):
    def judged(value):
        if type(value) is not list or not all(judge(thing) for thing in value):
            return False
        return not unlike or all(value.count(thing) == 1 for thing in value)
    return judged


def is_manual(value):
    return type(value) is Manual


def argument(name, right, error, wrong=(), judge=None):
    return {"name": name, "right": right, "error": error, "wrong": lambda: list(wrong), "judge": judge}


ELDER = argument("elder", first_manual, errors.InvalidManual, judge=is_manual)
NEWER = argument("newer", second_manual, errors.InvalidManual, judge=is_manual)
MANUAL = argument("manual", second_manual, errors.InvalidManual, judge=is_manual)
ONE, OTHER = {**ELDER, "name": "one"}, {**NEWER, "name": "other"}
VALUE = argument("value", lambda: [], None)
BOOK = argument("book", lambda: ["carry", "rest", "carry"], errors.InvalidBook,
                judge=is_list_of(is_plain_word, False))
PURSE = argument("purse", lambda: 1, errors.InvalidCount, judge=is_plain_count)
LOW_PURSE = argument("purse", lambda: 0, errors.InvalidCount, judge=is_plain_count)
EFFECT = argument("effect", lambda: ("coins", 2), errors.InvalidEffect, judge=is_plain_effect)
OTHER_EFFECT = argument("other", lambda: ("fill", 1, 0), errors.InvalidEffect, judge=is_plain_effect)
AHEAD = argument("ahead", lambda: 3, errors.InvalidCount, judge=is_plain_count)
BEHIND = argument("behind", lambda: 0, errors.InvalidCount, judge=is_plain_count)
ROOM = argument("room", lambda: "in", errors.InvalidRoom, ["inn", "carry"], lambda value: value in ["in", "out"])
JOB = argument("job", lambda: "carry", errors.InvalidWord, judge=is_plain_word)
MISFITS = [("put", CARRY), ("out", ("in", "carry", "in", ("coins", 2))), ("effect", CARRY, ("coins", 1)),
           ("effect", ("out", "carry", "in", ("coins", 1)), ("coins", 1)), ("start", "in"), ("unstart", "out"),
           ("stop", "out"), ("stop", "in"), ("unstop", "inn")]
CHANGE = argument("change", lambda: ("put", ("in", "deal", "in", ("coins", 3))), errors.InvalidChange, MISFITS,
                  lambda value: is_plain_change(value) and value not in MISFITS)
CHANGES = argument("changes", lambda: [("start", "out"), ("out", CARRY)], errors.InvalidChanges,
                   [(("start", "out"),), [("start", "out"), None], [["start", "out"]]],
                   is_list_of(is_plain_change, False))
MANNER = argument("manner", lambda: STAY, errors.InvalidManner, [("out", "rest", "out", ("coins", 1)), list(STAY)],
                  lambda value: is_plain_manner(value) and value in second_manual().manners())
WAY = argument("way", lambda: [CARRY, REST, AWAY, STAY], errors.InvalidWay,
               [[STAY], [AWAY, CARRY], (CARRY,), [CARRY, list(REST)], [CARRY, ("in", "rest", "in", ("fill", 0, 1))]],
               lambda value: value in [[], [CARRY], [REST], [CARRY, REST], [CARRY, CARRY]])
SIZE = argument("size", lambda: 2, errors.InvalidCount, judge=is_plain_count)
NUMBER = argument("number", lambda: 3, errors.InvalidCount, [4, 5],
                  judge=lambda value: is_plain_count(value) and value < 4)
MANNERS = argument("manners", lambda: [REST, CARRY], errors.InvalidManners, [[REST, CARRY, REST], (REST, CARRY)],
                   is_list_of(is_plain_manner, True))
BEGINNINGS = argument("beginnings", lambda: ["out", "in"], errors.InvalidRooms, [["a", "a"], ("a",), ["in", "In"]],
                      is_list_of(is_plain_word, True))
ENDS = {**BEGINNINGS, "name": "ends"}

FUNCTIONS = {
    "manuals": {
        "is_word": [VALUE], "is_effect": [VALUE], "is_manner": [VALUE],
        "worth_at": [EFFECT, AHEAD, BEHIND], "beats": [EFFECT, OTHER_EFFECT],
        "parting_sides": [EFFECT, OTHER_EFFECT], "are_parting_sides": [EFFECT, OTHER_EFFECT, VALUE],
        "Manual": [MANNERS, BEGINNINGS, ENDS], "rooms_of": [MANUAL], "jobs_of": [MANUAL],
        "manners_at": [MANUAL, ROOM, JOB], "changed": [MANUAL, CHANGE], "changed_by": [MANUAL, CHANGES],
        "told_changes": [ELDER, NEWER], "are_changes": [ELDER, NEWER, VALUE], "struck": [MANUAL],
        "trimmed": [MANUAL], "used_way": [MANUAL, MANNER], "is_used_way": [MANUAL, MANNER, VALUE],
        "lean": [MANUAL], "cover_of": [ELDER, NEWER], "is_cover": [ELDER, NEWER, VALUE], "is_covered": [ELDER, NEWER],
    },
    "books": {
        "is_book": [VALUE], "is_way": [MANUAL, BOOK, VALUE], "stretches": [MANUAL, WAY], "need_of": [MANUAL, BOOK],
        "least_way": [MANUAL, BOOK], "is_least_way": [MANUAL, BOOK, VALUE], "paper_of": [MANUAL, BOOK, LOW_PURSE],
        "is_paper": [MANUAL, BOOK, PURSE, VALUE], "dry_at": [MANUAL, BOOK, PURSE],
        "fewest_fills": [MANUAL, BOOK, PURSE], "few_way": [MANUAL, BOOK, PURSE],
        "is_few_way": [MANUAL, BOOK, PURSE, VALUE],
    },
    "doing": {
        "does": [MANUAL, BOOK], "rooms_after": [MANUAL, BOOK], "shortest_done": [MANUAL],
        "is_shortest_done": [MANUAL, VALUE], "missed": [ELDER, NEWER], "is_missed": [ELDER, NEWER, VALUE],
        "do_alike": [ONE, OTHER], "doing_table": [ELDER, NEWER], "is_doing_table": [ELDER, NEWER, VALUE],
        "many_done": [MANUAL, SIZE], "done_book": [MANUAL, SIZE, NUMBER], "done_place": [MANUAL, BOOK],
        "growth": [MANUAL],
    },
}
MODULES = {"manuals": manuals, "books": books, "doing": doing}


def all_functions():
    """Each function with its name and its arguments."""
    return [(name, getattr(MODULES[module], name), arguments)
            for module, rows in FUNCTIONS.items() for name, arguments in rows.items()]


def wrong_values(asked):
    """Odd objects, and others, that an argument must not be."""
    return asked["wrong"]() + [value for value in odd_objects() if not asked["judge"](value)]


def odd_right_values(asked):
    """The odd objects that an argument may be, but sizes far beyond the limit, for which no call need end."""
    values = [value for value in odd_objects() if asked["judge"](value)]
    return [value for value in values if asked["name"] != "size" or value <= 40]


def right_values(arguments):
    return [asked["right"]() for asked in arguments]
