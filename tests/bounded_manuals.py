"""Manuals that lie just at the bounds of TooMany, and one behind them."""

from withinbooks.manuals import Manual

FREE, COIN, FILL = ("coins", 0), ("coins", 1), ("fill", 0, 0)
DEAR = ("coins", 3)


def manual_with_120_cards():
    return Manual([("a", "x", "b", FREE), ("a", "y", "c", FREE), ("b", "x", "a", COIN), ("b", "y", "b", FREE),
                   ("c", "x", "a", FREE), ("c", "x", "b", COIN)], ["a", "b", "c"], ["b", "c"])


def manual_with_121_cards():
    return Manual([("a", "x", "a", FREE), ("a", "y", "c", FILL), ("b", "x", "b", FREE), ("b", "x", "c", COIN),
                   ("b", "y", "a", COIN), ("c", "x", "a", COIN), ("c", "y", "b", FREE)], ["a", "b", "c"], ["b", "c"])


def manual_with_purse(purse):
    """A manual with a least purse from 36 to 42."""
    ahead, behind = max(0, purse - 39), min(3, purse - 36)
    manners = [("a", "x", "c", DEAR), ("b", "y", "a", DEAR), ("b", "y", "c", DEAR), ("c", "x", "b", DEAR),
               ("c", "y", "a", DEAR), ("a", "y", "b", FILL), ("b", "x", "a", ("fill", ahead, behind)), ("c", "y", "c", FILL)]
    return Manual(manners, ["a"], ["a"])


def long_row(coins):
    """A manual that does one book alone, and its beginnings, job by job; so many coins each."""
    names = [letter + "room" for letter in "abcdefghijklmnopqrstuvwxyz"]
    manners = [(names[at], "x", names[at + 1], ("coins", spent)) for at, spent in enumerate(coins)]
    return Manual(manners, names[:1], names[:len(coins) + 1])


def pair_with_200_pairs():
    elder = Manual([("a", "z", "a", FREE), ("a", "z", "a", COIN), ("a", "z", "b", FREE), ("b", "x", "a", FREE),
                    ("b", "z", "b", COIN)], ["a", "b"], ["a", "b"])
    newer = Manual([("a", "x", "b", COIN), ("a", "y", "b", FILL), ("a", "z", "b", FREE), ("b", "x", "a", FREE),
                    ("b", "y", "a", FREE), ("b", "z", "a", FREE), ("b", "z", "b", COIN)], ["a", "b"], ["a"])
    return elder, newer


def pair_with_201_pairs():
    elder = Manual([("a", "x", "b", FREE), ("a", "z", "a", COIN), ("a", "z", "b", FREE), ("b", "x", "a", FILL),
                    ("b", "y", "a", COIN), ("b", "z", "b", COIN)], ["a"], ["a", "b"])
    newer = Manual([("a", "x", "a", FILL), ("a", "x", "b", FREE), ("a", "x", "b", COIN), ("a", "y", "a", FILL),
                    ("b", "y", "a", FREE), ("b", "y", "b", FREE), ("b", "z", "b", COIN)], ["a"], ["a", "b"])
    return elder, newer


def pair_with_200_steps():
    """Two manuals that have 200 steps at a purse of 3."""
    elder = Manual([("a", "x", "a", COIN), ("a", "y", "a", COIN), ("a", "y", "b", COIN), ("b", "x", "a", COIN),
                    ("b", "y", "a", FREE), ("b", "z", "a", FILL), ("b", "z", "b", COIN)], ["b"], ["a"])
    newer = Manual([("a", "x", "b", FREE), ("b", "x", "a", COIN), ("b", "y", "a", COIN), ("b", "y", "b", FREE)],
                   ["a", "b"], ["a"])
    return elder, newer


def pair_with_201_steps():
    """Two manuals that have 201 steps at a purse of 3."""
    elder = Manual([("a", "x", "b", FREE), ("a", "y", "a", COIN), ("a", "z", "a", FREE), ("b", "x", "a", FREE),
                    ("b", "x", "b", FREE), ("b", "y", "a", FREE), ("b", "z", "a", COIN), ("b", "z", "a", FILL)],
                   ["a", "b"], ["b"])
    newer = Manual([("a", "x", "a", FILL), ("a", "x", "b", COIN), ("b", "y", "a", FREE), ("b", "z", "b", FREE)],
                   ["a"], ["a", "b"])
    return elder, newer


def dear_pair(coins):
    """Two manuals of which the newer one needs 39 + coins, at most 42, for what 12 coins serve in the elder one."""
    elder = Manual([("a", "x", "a", COIN), ("b", "w", "a", FREE), ("a", "y", "b", FILL)], ["b"], ["b"])
    newer = Manual([("a", "x", "a", DEAR), ("b", "w", "a", DEAR), ("a", "y", "b", ("fill", coins, 0))], ["b"], ["b"])
    return elder, newer


def pair_with_200_made_pairs():
    """It has 200 pairs, with any manners made filling, or emptied, at most as many, and with some made free 203."""
    elder = Manual([("a", "y", "b", COIN), ("a", "z", "b", FILL), ("b", "x", "a", FILL), ("b", "y", "a", FILL),
                    ("b", "y", "b", FILL), ("b", "z", "a", FILL)], ["b"], ["a"])
    newer = Manual([("a", "x", "a", FREE), ("a", "x", "b", COIN), ("a", "y", "a", FREE), ("a", "y", "a", FILL),
                    ("b", "x", "a", COIN), ("b", "y", "b", FREE), ("b", "z", "b", COIN)], ["a", "b"], ["a", "b"])
    return elder, newer


def pair_with_200_freed_pairs():
    """It has 200 pairs, and with any manners made free at most as many."""
    elder = Manual([("a", "z", "b", COIN), ("b", "x", "b", FREE), ("b", "y", "a", COIN), ("b", "y", "b", FILL),
                    ("b", "z", "a", FREE)], ["a", "b"], ["a", "b"])
    newer = Manual([("a", "y", "a", FREE), ("a", "z", "b", FREE), ("a", "z", "b", COIN), ("b", "x", "a", FREE),
                    ("b", "x", "b", COIN), ("b", "y", "b", FREE), ("b", "y", "b", FILL), ("b", "z", "a", FILL)],
                   ["b"], ["b"])
    return elder, newer


def within_pair_with_201_later_pairs():
    """The newer one stays within; with some manners made free, and with some emptied, there are too many pairs."""
    elder = Manual([("a", "x", "b", FREE), ("a", "y", "b", FILL), ("a", "z", "a", FREE), ("b", "y", "a", COIN),
                    ("b", "z", "a", FREE), ("b", "z", "a", COIN), ("b", "z", "b", COIN)], ["a", "b"], ["a", "b"])
    newer = Manual([("a", "x", "a", COIN), ("a", "y", "a", FREE), ("a", "y", "b", FILL), ("a", "z", "a", FILL),
                    ("b", "x", "b", COIN), ("b", "y", "a", COIN), ("b", "y", "b", FREE), ("b", "y", "b", COIN)],
                   ["a", "b"], ["a", "b"])
    return elder, newer


def within_pair_with_201_filling_pairs():
    """The newer one stays within; with one manner made filling there are too many pairs."""
    elder = Manual([("a", "y", "b", FREE), ("a", "y", "b", COIN), ("a", "y", "b", FILL), ("a", "z", "a", FREE),
                    ("a", "z", "b", FREE), ("b", "x", "a", COIN), ("b", "y", "a", FREE), ("b", "z", "a", FREE)],
                   ["a", "b"], ["a", "b"])
    newer = Manual([("a", "x", "a", FREE), ("a", "x", "b", COIN), ("a", "y", "a", FREE), ("a", "y", "b", FREE),
                    ("a", "z", "a", FREE), ("b", "x", "a", COIN), ("b", "x", "b", FREE), ("b", "z", "a", FREE)],
                   ["a", "b"], ["a"])
    return elder, newer


def stray_pair_with_201_emptied_pairs():
    """It has 188 pairs, and with its fill emptied 201; the newer one does not stay within."""
    elder = Manual([("a", "y", "b", FREE), ("a", "z", "b", COIN), ("b", "x", "a", FREE), ("b", "x", "b", COIN),
                    ("b", "y", "a", FREE), ("b", "z", "a", FILL), ("b", "z", "b", FILL)], ["a", "b"], ["a", "b"])
    newer = Manual([("a", "x", "b", FILL), ("a", "y", "b", FREE), ("a", "y", "b", COIN), ("a", "z", "a", COIN),
                    ("b", "x", "a", FREE), ("b", "y", "a", COIN), ("b", "z", "b", FREE), ("b", "z", "b", COIN)],
                   ["b"], ["b"])
    return elder, newer


def large_pair_with_6_that_spend():
    """It has more than 200 pairs; 6 manners of the newer one spend."""
    elder = Manual([("a", "x", "a", COIN), ("a", "x", "b", FREE), ("a", "y", "a", FILL), ("a", "y", "b", FILL),
                    ("a", "z", "b", FREE), ("b", "x", "b", FREE), ("b", "y", "b", COIN), ("b", "z", "a", COIN)],
                   ["a", "b"], ["b"])
    newer = Manual([("a", "x", "a", COIN), ("a", "x", "b", COIN), ("a", "y", "b", FREE), ("a", "y", "b", COIN),
                    ("a", "z", "a", COIN), ("b", "z", "a", FILL), ("b", "z", "b", COIN)], ["b"], ["a"])
    return elder, newer


def large_pair_with_5_that_fill():
    """It has more than 200 pairs; 5 manners of the newer one fill."""
    elder = Manual([("a", "y", "a", FREE), ("a", "y", "b", COIN), ("a", "z", "b", FREE), ("b", "x", "b", FREE),
                    ("b", "y", "a", COIN), ("b", "z", "a", FREE)], ["a", "b"], ["a", "b"])
    newer = Manual([("a", "x", "b", FILL), ("a", "y", "a", FREE), ("a", "y", "a", FILL), ("a", "z", "b", FREE),
                    ("b", "x", "b", FILL), ("b", "y", "b", COIN), ("b", "z", "a", FILL), ("b", "z", "b", FILL)],
                   ["a", "b"], ["a", "b"])
    return elder, newer


def changes_with_200_pairs():
    """A manual and changes of it, of which one lot makes an edition that has 200 pairs with it, and none has more."""
    elder = Manual([("a", "x", "a", FREE), ("a", "x", "b", COIN), ("a", "z", "a", FREE), ("a", "z", "b", FREE),
                    ("b", "x", "a", FREE), ("b", "y", "a", FREE), ("b", "z", "a", COIN), ("b", "z", "b", COIN)],
                   ["a", "b"], ["a"])
    return elder, [("effect", ("b", "y", "a", FREE), FILL), ("effect", ("a", "z", "a", FREE), FILL),
                   ("effect", ("a", "z", "b", FREE), FREE), ("put", ("a", "y", "b", FREE))]


def changes_with_201_pairs():
    """A manual and changes of it, of which one lot makes an edition that has 201 pairs with it."""
    elder = Manual([("a", "z", "b", FREE), ("b", "x", "a", FREE), ("b", "x", "b", FREE), ("b", "x", "b", COIN),
                    ("b", "y", "a", FREE), ("b", "z", "a", COIN)], ["a", "b"], ["a"])
    return elder, [("effect", ("b", "x", "b", FREE), FILL), ("effect", ("b", "x", "a", FREE), FILL),
                   ("effect", ("b", "z", "a", COIN), COIN), ("put", ("a", "x", "a", FREE))]


def long_walk_pair():
    """Of what 12 coins serve in the elder one very many rests are left by the newer one, book by book."""
    elder = Manual([("a", "x", "b", FREE), ("a", "y", "a", COIN), ("a", "z", "a", FILL), ("b", "x", "a", COIN),
                    ("b", "y", "a", ("fill", 0, 3)), ("b", "y", "b", COIN), ("b", "y", "b", DEAR), ("b", "z", "b", FREE)],
                   ["b"], ["a", "b"])
    two = ("coins", 2)
    newer = Manual([("a", "x", "a", FREE), ("a", "y", "a", two), ("a", "z", "b", FREE), ("b", "x", "a", two),
                    ("b", "x", "b", two), ("b", "y", "b", COIN), ("b", "z", "a", COIN), ("b", "z", "a", two)],
                   ["a", "b"], ["a", "b"])
    return elder, newer
