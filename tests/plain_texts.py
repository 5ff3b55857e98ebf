"""Plain writers of the texts of sections 17 and 18, and texts bent in one place."""

SIGNS = [" ", "\n", "\t", "0", "1", "a", "A", "(", ")", "*", "?", "-", "/", "|", "\r"]


def plain_effect_text(effect):
    return f"coins {effect[1]}" if effect[0] == "coins" else f"fill {effect[1]} {effect[2]}"


def plain_manner_text(manner):
    return f"{manner[0]} {manner[1]} {manner[2]} " + plain_effect_text(manner[3])


def plain_manual_text(manual):
    lines = "".join(plain_manner_text(manner) + "\n" for manner in manual.manners())
    begins = "".join(" " + room for room in manual.beginnings())
    ends = "".join(" " + room for room in manual.ends())
    return lines + "begins" + begins + "\nends" + ends


def plain_change_text(change):
    text = change[0] + " " + (change[1] if type(change[1]) is str else plain_manner_text(change[1]))
    return text + (" " + plain_effect_text(change[2]) if change[0] == "effect" else "")


def plain_expression_text(expression):
    if type(expression) is str:
        return expression
    if expression == ("place",):
        return "?"
    if expression[0] == "again":
        return plain_expression_text(expression[1]) + " *"
    return "( " + "".join(plain_expression_text(part) + " " for part in expression[1]) + ")"


def plain_card_text(card):
    return " / ".join(" ".join(row) for row in card) or "-"


def plain_script_text(script, inset=""):
    """The lines of a script, so far in."""
    lines = []
    for word, *things in script:
        first = inset + word
        inner = None
        for thing in things[::-1] if word == "change" else things:
            if type(thing) is int:
                first += f" {thing}"
            elif word == "try":
                inner = [plain_script_text(thing, inset + "  ")] if thing else []
            elif word in ("change", "force", "price"):
                inner = [inset + "  " + plain_change_text(change) for change in thing]
            else:
                first += "".join(" " + job for job in thing)
        lines.append(first)
        if inner is not None:
            lines += inner + [inset + "end"]
    return "\n".join(lines)


def bent_texts(text):
    """The text with one sign left out, put in, exchanged or doubled, and with its lines in another order."""
    found = [text.upper(), text + "\n", "\n" + text, text + " ", " " + text, text.replace(" ", "  "), text.replace("\n", "\r\n"),
             text.replace("\n", "\n\n"), text.replace("\n", " "), text.strip(), text.replace("  ", " ")]
    for at in range(len(text) + 1):
        found += [text[:at] + sign + text[at:] for sign in SIGNS]
        if at < len(text):
            found += [text[:at] + text[at + 1:], text[:at] + text[at] * 2 + text[at + 1:]]
            found += [text[:at] + sign + text[at + 1:] for sign in SIGNS]
    lines, pieces = text.split("\n"), text.split(" ")
    for at in range(len(lines)):
        found += ["\n".join(lines[at:] + lines[:at]), "\n".join(lines[:at] + lines[at + 1:]),
                  "\n".join(lines[:at] + [lines[at]] + lines[at:]), "\n".join(lines[:at] + ["  " + lines[at]] + lines[at + 1:])]
    for at in range(len(pieces)):
        found += [" ".join(pieces[:at] + pieces[at + 1:]), " ".join(pieces[:at] + [pieces[at]] + pieces[at:]),
                  " ".join(pieces[:at] + pieces[at:][::-1])]
    return [one for one in found if one != text]
