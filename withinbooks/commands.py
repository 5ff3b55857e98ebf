"""Commands of houses and scripts: a tuple of the name of a method and its arguments."""

from withinbooks.shapes import has_book_form, has_changes_form, is_count

# How many things stand behind each word of a log.
LOG_WORDS = {"enter": 1, "go_on": 2, "close": 1, "change": 2, "force": 1, "widen": 1, "tighten": 0}
ALONE = ("tighten", "least", "lost", "broken", "undo", "redo")
WITH_COUNT = ("close", "widen", "need")
WITH_CHANGES = ("force", "price")


def has_log_form(value):
    """Whether any object is a list of tuples with a word of a log and as many things behind it."""
    return isinstance(value, list) and all([is_log_command(command) for command in value])


def is_log_command(value):
    """Whether any object is a tuple with a word of a log and as many things behind it."""
    if not isinstance(value, tuple) or not value or not isinstance(value[0], str):
        return False
    return value[0] in LOG_WORDS and len(value) == LOG_WORDS[value[0]] + 1


def has_script_form(value):
    """Whether any object is a script."""
    return isinstance(value, list) and all([is_command(command) for command in value])


def is_command(value):
    """Whether any object is a command of a script."""
    if not isinstance(value, tuple) or not value or not isinstance(value[0], str):
        return False
    word = value[0]
    if len(value) == 1:
        return word in ALONE
    if len(value) == 3:
        if word == "go_on":
            return is_count(value[1]) and has_book_form(value[2])
        return word == "change" and has_changes_form(value[1]) and is_count(value[2])
    if len(value) != 2:
        return False
    if word == "enter":
        return has_book_form(value[1])
    if word == "try":
        return has_script_form(value[1])
    return (word in WITH_COUNT and is_count(value[1])) or (word in WITH_CHANGES and has_changes_form(value[1]))


def called(house, command):
    """What the method of a house returns that a command names."""
    word = command[0]
    if word == "enter":
        return house.enter(command[1])
    if word == "go_on":
        return house.go_on(command[1], command[2])
    if word == "close":
        return house.close(command[1])
    if word == "change":
        return house.change(command[1], command[2])
    if word == "force":
        return house.force(command[1])
    if word == "widen":
        return house.widen(command[1])
    if word == "tighten":
        return house.tighten()
    if word == "undo":
        return house.undo()
    if word == "redo":
        return house.redo()
    return asked(house, command)


def asked(house, command):
    """What a house answers to a command that changes nothing."""
    word = command[0]
    if word == "price":
        return house.price(command[1])
    if word == "need":
        return house.need(command[1])
    if word == "least":
        return house.least()
    if word == "lost":
        return house.lost()
    return house.broken()


def copied(command):
    """The command with lists of its own."""
    return tuple([copied_thing(thing) for thing in command])


def copied_thing(thing):
    """A word, a count, or a new list: of jobs, of changes, or of commands."""
    if not isinstance(thing, list):
        return thing
    return [copied(held) if isinstance(held, tuple) else held for held in thing]
