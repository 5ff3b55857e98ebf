"""Any object (point 2), and values bent in one place."""

import copy

from withinbooks import errors
from withinbooks.house import House
from withinbooks.manuals import Manual

CARRY = ("in", "carry", "in", ("coins", 1))
REST = ("in", "rest", "in", ("fill", 0, 0))


def deep(depth):
    """A list, a tuple and a dictionary within one another, so many times."""
    value = 1
    for at in range(depth):
        value = [[value], (value,), {"a": value}][at % 3]
    return value


def odd_objects():
    """Objects of every kind that point 2 calls any object, new ones for each call."""
    manual = Manual([CARRY, REST], ["in"], ["in"])
    return [
        None, True, False, 0, 1, 2, -1, 10 ** 29, -10 ** 29,
        "", "a", "in", "carry", "A", "a b", "a1", "abcdefgh", "abcdefghi", "coins", "fill", "put", "1",
        [], (), {}, [None], (None,), {None: None}, [True], (True,), {True: True}, [1], (1,), {1: 1}, [0, 1], (0, 1),
        (0, 0), (True, False), (1, 1), [[]], [()], [{}], ([],), ((),), ({},), {"a": []}, {"in": 1}, [{"in": 0}],
        ["a"], ("a",), {"a": 1}, ["a", "a"], ["in", "carry"], ["A"], ["a", 1], ["a", None], [["a"]], [("a",)],
        ("in", "in"), [("in", "in")], (("in", "in"),), [["in", "in"]], [("in", ("in",))], [("in", ["in"])], [("in", ())],
        ("coins", 1), ["coins", 1], ("coins", True), ("coins", 4), ("coins", -1), ("coins",), ("coins", 1, 1),
        ("fill", 1, 1), ("fill", 1), ("fill", 1, False), ("fill", 0, 4), ("fill", -1, 0), ["fill", 1, 1], ("purse", 1),
        ("coins", "1"), ("coins", None), (["coins"], 1), ({}, 1), (manual, 1), (manual, manual), ("coins", manual),
        CARRY, list(CARRY), [CARRY], (CARRY,), {CARRY: CARRY}, [CARRY, CARRY], [list(CARRY)], [REST], [CARRY, REST],
        ("in", "carry", "in", ["coins", 1]), ("in", "carry", "in", ("coins", True)), ("in", "carry", "in"),
        ("in", "carry", "in", ("coins", 1), None), ("in", "carry", None, ("coins", 1)), (1, 2, 3, ("coins", 1)),
        ("put", CARRY), ["put", CARRY], [("put", CARRY)], ("put", list(CARRY)), ("put",), ("put", CARRY, CARRY),
        ("out", CARRY), [("out", CARRY)], ("effect", CARRY, ("coins", 0)), ("effect", CARRY), ("effect", CARRY, ["coins", 0]),
        [("effect", CARRY, ("coins", True))], ("start", "in"), ("start", "out"), ("start",), ("start", 1), ["start", "in"],
        [("start", "out"), ("stop", "out")], [["start", "out"]], ("unstop", "in"), ("unstart", ["in"]), ("begin", "in"),
        "full", "some", "never", "short", ("free",), (("free",),), [("free",)], (["free"],), [(("free",),)], ((),), [((),)],
        (("free", "never"), ("never", "free")), [(("free", "never"), ("never", "free"))], (("free", "never"), ("never",)),
        (("some", "free"), ("never", "never")), [["free", "never"], ["never", "free"]], (("free", True), (True, "free")),
        ("row", []), ("row", ()), ["row", []], ("row", ["carry"]), ("row", ["carry", 1]), ("row", ["carry", ("again", "rest")]),
        ("again", "carry"), ("again", ["carry"]), ["again", "carry"], ("again", ("again", "rest")), ("again", True), ("row",),
        ("again",), ("place",), ["place"], ("place", "carry"), ("again", ("place",)), ("row", [("place",), "carry"]),
        ("short", 1), (1, "never"), (True, "never"), ("never", "short"), [("never", 1)], [(1, "never")], ("some", 2), (1, -1),
        [((("free",),), (("free",),))], ((("free",),), (("free",),)), [CARRY, ("out", "rest", "out", ("coins", 0))],
        [0], (0,), [0, 1, 2], [1, 0], [-1], [False], [0, True], ["carry", "rest"], ["rest", "carry"], [manual, manual],
        {"manners": [], "beginnings": [], "ends": []}, ([], [], []), [manual], (manual,), {"a": manual}, {(1, "a"): ()},
        errors.InvalidWord("a"), errors.TooMany(), errors.PurseError(), [errors.NothingToUndo()],
        {errors.PurseError(): 1}, deep(59), [deep(30)], (deep(40), deep(50)), manual, Manual([], [], []),
        House(manual, 1), [House(manual, 12)], {"house": House(manual, 0)}, {House(manual, 2): 1},
        ("keep",), [("keep",)], ["keep"], [("keep",), ("leave",), ("put", "carry")], [("exchange", "rest")], ("leave", "carry"),
        ("enter", []), [("enter", [])], [("enter", ["carry"])], [["enter", []]], [("enter", ())], [("tighten",)], [("undo",)],
        [("close", 0)], [("close", True)], [("widen", 1), ("tighten",)], [("change", [], 1)], [("try", [("lost",)])],
        [("try", [("try", ())])], "begins in", "begins\nends", "carry rest", "( carry )", "?", "-", "- | -", "free\nsome", "undo",
    ]


def same(one, other):
    """Whether two objects are equal, True is not taken for 1, nor a list for a tuple, and keys are in one order."""
    if type(one) is not type(other):
        return False
    if isinstance(one, dict):
        return same(list(one.items()), list(other.items()))
    if isinstance(one, (list, tuple)):
        return len(one) == len(other) and all(same(a, b) for a, b in zip(one, other))
    return one == other


def twin(value):
    """An equal object that shares no list and no dictionary with the given one."""
    if isinstance(value, Manual):
        return Manual(value.manners(), value.beginnings(), value.ends())
    if isinstance(value, House):
        return value.copy()
    if isinstance(value, list):
        return [twin(thing) for thing in value]
    if isinstance(value, tuple):
        return tuple([twin(thing) for thing in value])
    if isinstance(value, dict):
        return {key: twin(thing) for key, thing in value.items()}
    return value


def spoil(value):
    """Empty all lists and dictionaries in an object."""
    if isinstance(value, (list, tuple)):
        for thing in value:
            spoil(thing)
    if isinstance(value, dict):
        for thing in value.values():
            spoil(thing)
    if isinstance(value, (list, dict)):
        value.clear()


def bent(value):
    """The object bent in one place, in many ways; what comes may still be right."""
    if isinstance(value, bool) or value is None:
        return [0, 1, None, "a", []]
    if isinstance(value, int):
        return [value + 1, value - 1, -1 - value, bool(value), str(value), [value], None]
    if isinstance(value, str):
        return [value + "a", value[:-1], value.upper(), "in", "carry", "coins", [value], (value,), 1, None]
    if isinstance(value, dict):
        return bent_dict(value)
    if isinstance(value, (list, tuple)):
        return bent_row(value)
    return [None, [value], (value,)]


def bent_dict(value):
    made = [list(value.items()), tuple(value), None]
    for key, thing in value.items():
        less = {other: held for other, held in value.items() if other != key}
        made.append(less)
        made += [{**less, key: other} for other in bent(thing)]
        made += [{**less, other: thing} for other in bent(key) if is_key(other)]
    for extra in ["a", "b", "q", 1, True, None, ("a",)]:
        made += [{**value, extra: number} for number in (0, 1, True, -1, None)]
    return made


def is_key(value):
    """Whether Python takes an object as a key."""
    try:
        hash(value)
    except TypeError:
        return False
    return True


def bent_row(value):
    kind = type(value)
    other_kind = tuple if kind is list else list
    things = list(value)
    made = [other_kind(things), kind(things[::-1]), kind(things + [None]), kind([things]), None]
    for at, thing in enumerate(things):
        made.append(kind(things[:at] + things[at + 1:]))
        made.append(kind(things[:at] + [thing] + things[at:]))
        made.append(kind(things + [thing]))
        made.append(kind(things[at:] + things[:at]))
        made += [kind(things[:at] + [other] + things[at + 1:]) for other in bent(thing)]
    return [copy.copy(row) for row in made]
