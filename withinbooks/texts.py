"""Pieces of texts: how things are written, and what pieces may be texts of.

What is read here may still be of a wrong form: whoever reads a text looks at that, and
whether just this text is written for it.
"""

BLANK = " "
LINE_END = "\n"
INSET = "  "
# Python itself refuses to read numbers with many more digits; counts have far fewer.
MOST_DIGITS = 4000


def effect_pieces(effect):
    """The pieces of an effect."""
    return [effect[0]] + [str(number) for number in effect[1:]]


def manner_pieces(manner):
    """The pieces of a manner."""
    return list(manner[:3]) + effect_pieces(manner[3])


def change_pieces(change):
    """The pieces of a change."""
    if change[0] in ("put", "out"):
        return [change[0]] + manner_pieces(change[1])
    if change[0] == "effect":
        return [change[0]] + manner_pieces(change[1]) + effect_pieces(change[2])
    return [change[0], change[1]]


def change_line(change):
    """The text of a change."""
    return BLANK.join(change_pieces(change))


def pieces_of(text):
    """The pieces of a text; the empty text has none."""
    return text.split(BLANK) if text else []


def lines_of(text):
    """The lines of a text; the empty text has none."""
    return text.split(LINE_END) if text else []


def count_in(piece):
    """The count that a piece may be the digits of, None if it is none."""
    if not piece.isascii() or not piece.isdigit() or len(piece) > MOST_DIGITS:
        return None
    return int(piece)


def effect_in(pieces):
    """The effect of which some pieces may be the text."""
    return tuple(pieces[:1]) + tuple([count_in(piece) for piece in pieces[1:]])


def manner_in(pieces):
    """The manner of which some pieces may be the text."""
    return tuple(pieces[:3]) + (effect_in(pieces[3:]),)


def change_in(pieces):
    """The change of which some pieces may be the text."""
    if pieces[:1] in (["put"], ["out"]):
        return (pieces[0], manner_in(pieces[1:]))
    if pieces[:1] == ["effect"]:
        # Behind the word and three others a manner has one number if it spends, and two if it fills.
        end = 6 if pieces[4:5] == ["coins"] else 7
        return ("effect", manner_in(pieces[1:end]), effect_in(pieces[end:]))
    return tuple(pieces)


def row_in(piece):
    """The row of a card of which a text may be the text."""
    return tuple(pieces_of(piece))


def card_in(text):
    """The card of which a text may be the text."""
    if text == "-":
        return ()
    return tuple([row_in(piece) for piece in text.split(" / ")])


def card_line(card):
    """The text of a card."""
    if not card:
        return "-"
    return " / ".join([BLANK.join(row) for row in card])


def expression_pieces(expression):
    """The pieces of an expression."""
    if isinstance(expression, str):
        return [expression]
    if expression[0] == "place":
        return ["?"]
    if expression[0] == "again":
        return expression_pieces(expression[1]) + ["*"]
    inner = [piece for part in expression[1] for piece in expression_pieces(part)]
    return ["("] + inner + [")"]


def expression_in(pieces):
    """The expression of which some pieces may be the text, None if they are of none."""
    rows = [[]]
    for piece in pieces:
        if piece == "(":
            rows.append([])
        elif piece == ")" and len(rows) > 1:
            row = rows.pop()
            rows[-1].append(("row", row))
        elif piece == "*" and rows[-1]:
            body = rows[-1].pop()
            rows[-1].append(("again", body))
        elif piece == "?":
            rows[-1].append(("place",))
        else:
            rows[-1].append(piece)
    if len(rows) != 1 or len(rows[0]) != 1:
        return None
    return rows[0][0]
