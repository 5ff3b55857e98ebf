"""Scripts of commands for houses (points 112 to 115)."""

from withinbooks.commands import called, copied, has_script_form
from withinbooks.errors import InvalidChange, InvalidCount, InvalidScript, InvalidSpot, InvalidText, NothingToRedo
from withinbooks.errors import NothingToUndo, Refused
from withinbooks.house import House, check_house
from withinbooks.script_texts import script_in, written_script

# What is said of the result of a command; of each other one it is said that it is done.
SAID = {"enter": "entered", "change": "purse", "tighten": "purse", "price": "purse", "least": "purse", "need": "need",
        "lost": "lost", "broken": "broken"}
# The other commands leave no trace: they ask, or are taken back as a whole.
LASTING = ("enter", "go_on", "close", "change", "force", "widen", "tighten", "undo", "redo")


def _check_script(value):
    if not has_script_form(value):
        raise InvalidScript(value)


def _played(house, script):
    return [_said_of(house, command) for command in script]


def _said_of(house, command):
    """What is said of a command: of one that raises an error the name of its class."""
    try:
        return _answer(house, command)
    except InvalidSpot:
        return ("refused", "InvalidSpot")
    except InvalidChange:
        return ("refused", "InvalidChange")
    except InvalidCount:
        return ("refused", "InvalidCount")
    except Refused:
        return ("refused", "Refused")
    except NothingToUndo:
        return ("refused", "NothingToUndo")
    except NothingToRedo:
        return ("refused", "NothingToRedo")


def _answer(house, command):
    word = command[0]
    if word == "try":
        with house.trial():
            return ("tried", _played(house, command[1]))
    result = called(house, command)
    if word in SAID:
        return (SAID[word], result)
    return ("done",)


def play(house, script):
    """Carry out a script on a house, and return what is said of its commands."""
    check_house(house)
    _check_script(script)
    return _played(house, script)


def script_text(script):
    """The text of a script."""
    _check_script(script)
    return written_script(script)


def read_script(text):
    """The script that has a text."""
    if not isinstance(text, str):
        raise InvalidText(text)
    script = script_in(text)
    if not has_script_form(script) or written_script(script) != text:
        raise InvalidText(text)
    return script


def _check_script_asked(manual, purse, script):
    house = House(manual, purse)
    _check_script(script)
    return house


def _end_behind(manual, purse, script):
    house = House(manual, purse)
    _played(house, [command for command in script if command[0] in LASTING])
    return (house.manual(), house.purse(), {spot: house.book(spot) for spot in house.spots()})


def end_of(manual, purse, script):
    """What is in use, and the books by their spots, at the end of a script on a new house."""
    _check_script_asked(manual, purse, script)
    return _end_behind(manual, purse, script)


def shortened(manual, purse, script):
    """A script without the commands, from the last one on, without which its end is the same."""
    _check_script_asked(manual, purse, script)
    end = _end_behind(manual, purse, script)
    left = [copied(command) for command in script]
    for at in range(len(script) - 1, -1, -1):
        less = left[:at] + left[at + 1:]
        if _end_behind(manual, purse, less) == end:
            left = less
    return left
