"""Manuals that lie just at the bounds of TooMany, and one behind them."""

from withinbooks.manuals import Manual

FREE, COIN, FILL = ("coins", 0), ("coins", 1), ("fill", 0, 0)
DEAR = ("coins", 3)


def manual_with_120_cards():
    return Manual([("a", "x", "b", FREE), ("a", "y", "c", FREE), ("b", "x", "a", COIN), ("b", "y", "b", FREE),
                   ("c", "x", "a", FREE), ("c", "x", "b", COIN)], ["a", "b", "c"], ["b", "c"])


def manual_with_121_cards():
    return Manual([("a", "x", "a", FREE), ("a", "y", "c", FILL), ("b", "x", "b", FREE), ("b", "x", "c", COIN),
                   ("b", "y", "a", COIN), ("c", "x", "a", COIN), ("c", "y", "b", FREE)], ["a", "b", "c"], ["b", "c"])


def manual_with_purse(purse):
    """A manual with a least purse from 36 to 42."""
    ahead, behind = max(0, purse - 39), min(3, purse - 36)
    manners = [("a", "x", "c", DEAR), ("b", "y", "a", DEAR), ("b", "y", "c", DEAR), ("c", "x", "b", DEAR),
               ("c", "y", "a", DEAR), ("a", "y", "b", FILL), ("b", "x", "a", ("fill", ahead, behind)), ("c", "y", "c", FILL)]
    return Manual(manners, ["a"], ["a"])


def long_row(coins):
    """A manual that does one book alone, and its beginnings, job by job; so many coins each."""
    names = [letter + "room" for letter in "abcdefghijklmnopqrstuvwxyz"]
    manners = [(names[at], "x", names[at + 1], ("coins", spent)) for at, spent in enumerate(coins)]
    return Manual(manners, names[:1], names[:len(coins) + 1])
