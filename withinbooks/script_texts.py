"""Texts of scripts, of scripts that have been checked."""

from withinbooks.texts import BLANK, INSET, LINE_END, change_in, change_line, count_in, lines_of, pieces_of

OPENING = ("change", "force", "price", "try")
END = "end"


def written_script(script):
    """The text of a script."""
    return LINE_END.join(script_lines(script))


def script_lines(script):
    """The lines of a script."""
    return [line for command in script for line in command_lines(command)]


def command_lines(command):
    """The lines of a command."""
    word = command[0]
    if word == "enter":
        return [BLANK.join([word] + command[1])]
    if word == "go_on":
        return [BLANK.join([word, str(command[1])] + command[2])]
    if word not in OPENING:
        return [BLANK.join([word] + [str(count) for count in command[1:]])]
    first = BLANK.join([word] + [str(count) for count in command[2:]])
    inner = script_lines(command[1]) if word == "try" else [change_line(change) for change in command[1]]
    return [first] + [INSET + line for line in inner] + [END]


def script_in(text):
    """The script of which a text may be the text, None if it is of none."""
    return commands_in(lines_of(text))


def commands_in(lines):
    """The commands of which some lines may be the text, None if they are of none."""
    found = []
    at = 0
    while at < len(lines):
        pieces = pieces_of(lines[at])
        at += 1
        inner = []
        if pieces[:1] and pieces[0] in OPENING:
            while at < len(lines) and lines[at].startswith(INSET):
                inner.append(lines[at][len(INSET):])
                at += 1
            if at == len(lines) or lines[at] != END:
                return None
            at += 1
        found.append(command_in(pieces, inner))
    return found


def command_in(pieces, inner):
    """The command of which some pieces, and the lines that follow within, may be the text."""
    word = pieces[0] if pieces else ""
    if word == "enter":
        return (word, pieces[1:])
    if word == "go_on":
        return (word,) + tuple([count_in(piece) for piece in pieces[1:2]]) + (pieces[2:],)
    counts = tuple([count_in(piece) for piece in pieces[1:]])
    if word not in OPENING:
        return (word,) + counts
    held = commands_in(inner) if word == "try" else [change_in(pieces_of(line)) for line in inner]
    return (word, held) + counts
