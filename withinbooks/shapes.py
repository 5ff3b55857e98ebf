"""What any object is by its form.

Python takes True for 1, also within tuples. So the form of an object is judged
here, kind by kind, before it is compared with anything or taken as a key.
"""

LONGEST_WORD = 8
MOST_COINS = 3
NUMBERS_BEHIND = {"coins": 1, "fill": 2}
ROOM_CHANGES = ("start", "unstart", "stop", "unstop")
MARKS = ("full", "free", "some", "many", "never")


def is_count(value):
    """Whether any object is a count."""
    return isinstance(value, int) and not isinstance(value, bool) and value >= 0


def is_tuple_of(value, length):
    """Whether any object is a tuple of so many things."""
    return isinstance(value, tuple) and len(value) == length


def has_word_form(value):
    """Whether any object is a word."""
    if not isinstance(value, str) or len(value) > LONGEST_WORD:
        return False
    return value.isascii() and value.isalpha() and value.islower()


def has_effect_form(value):
    """Whether any object is an effect."""
    if not isinstance(value, tuple) or not value or not isinstance(value[0], str):
        return False
    if value[0] not in NUMBERS_BEHIND or len(value) != NUMBERS_BEHIND[value[0]] + 1:
        return False
    return all([is_count(number) and number <= MOST_COINS for number in value[1:]])


def has_manner_form(value):
    """Whether any object is a manner."""
    if not is_tuple_of(value, 4) or not has_effect_form(value[3]):
        return False
    return all([has_word_form(word) for word in value[:3]])


def has_book_form(value):
    """Whether any object is a list of words."""
    return isinstance(value, list) and all([has_word_form(word) for word in value])


def has_rooms_form(value):
    """Whether any object is a list of unlike words."""
    return has_book_form(value) and are_unlike(value)


def has_manners_form(value):
    """Whether any object is a list of unlike manners."""
    if not isinstance(value, list) or not all([has_manner_form(manner) for manner in value]):
        return False
    return are_unlike(value)


def has_change_form(value):
    """Whether any object is a change by its form, whether or not it fits."""
    if not isinstance(value, tuple) or len(value) < 2:
        return False
    if value[0] in ("put", "out"):
        return len(value) == 2 and has_manner_form(value[1])
    if value[0] == "effect":
        return len(value) == 3 and has_manner_form(value[1]) and has_effect_form(value[2])
    return value[0] in ROOM_CHANGES and len(value) == 2 and has_word_form(value[1])


def has_changes_form(value):
    """Whether any object is a list of changes by their form."""
    return isinstance(value, list) and all([has_change_form(change) for change in value])


def has_mark_form(value):
    """Whether any object is a mark."""
    return isinstance(value, str) and value in MARKS


def has_card_form(value, size):
    """Whether any object is a card for so many rooms."""
    if not is_tuple_of(value, size) or not all([is_tuple_of(row, size) for row in value]):
        return False
    return all([has_mark_form(mark) for row in value for mark in row])


def has_rests_form(value, size, purse):
    """Whether any object is a tuple of "never", "short" or a count of at most a purse, for so many rooms."""
    if not is_tuple_of(value, size):
        return False
    return all([has_rest_form(entry, purse) for entry in value])


def has_rest_form(value, purse):
    """Whether any object is "never", "short" or a count of at most a purse."""
    if isinstance(value, str):
        return value in ("never", "short")
    return is_count(value) and value <= purse


def has_expression_form(value, placed):
    """Whether any object is an expression; if placed, places may stand in it."""
    if isinstance(value, str):
        return has_word_form(value)
    if is_tuple_of(value, 1):
        return placed and value[0] == "place"
    if not is_tuple_of(value, 2):
        return False
    if value[0] == "again":
        return has_expression_form(value[1], placed)
    if value[0] != "row" or not isinstance(value[1], list):
        return False
    return all([has_expression_form(part, placed) for part in value[1]])


def are_unlike(values):
    """Whether no value stands twice in a list of values that can be keys."""
    return len(set(values)) == len(values)


def is_ascending(values):
    """Whether each value of a list or a tuple is greater than the one ahead of it."""
    return all([values[at - 1] < values[at] for at in range(1, len(values))])
