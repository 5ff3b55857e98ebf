"""Expressions, of arguments that have been checked; places may stand in them."""


def leaves_of(expression):
    """The list of the jobs of an expression, in order, each as often as it stands."""
    if isinstance(expression, str):
        return [expression]
    if expression[0] == "again":
        return leaves_of(expression[1])
    if expression[0] == "place":
        return []
    return [job for part in expression[1] for job in leaves_of(part)]


def nesting_of(expression):
    """The greatest number of agains that stand one within the other."""
    if isinstance(expression, str) or expression[0] == "place":
        return 0
    if expression[0] == "again":
        return 1 + nesting_of(expression[1])
    return max([nesting_of(part) for part in expression[1]], default=0)


def has_place(expression):
    """Whether a place stands in an expression."""
    if isinstance(expression, str):
        return False
    if expression[0] == "again":
        return has_place(expression[1])
    return expression[0] == "place" or any([has_place(part) for part in expression[1]])


def expression_with(frame, expression):
    """A new expression: a frame with another expression in each place."""
    if isinstance(frame, str):
        return frame
    if frame[0] == "again":
        return ("again", expression_with(frame[1], expression))
    if frame[0] == "place":
        # There is no place in the expression: this makes its lists anew.
        return expression_with(expression, expression)
    return ("row", [expression_with(part, expression) for part in frame[1]])


def has_jobs_of(expression, jobs):
    """Whether an expression has no other jobs than these."""
    return all([job in jobs for job in leaves_of(expression)])


def row_of(parts):
    """The expression of some parts, one behind the other: one part alone is it itself."""
    if len(parts) == 1:
        return parts[0]
    return ("row", parts)


def ledger_number(ledger, expression):
    """The number of an expression in a ledger, None if it has none there."""
    if isinstance(expression, str):
        return ledger.job(expression)
    if expression[0] == "again":
        body = ledger_number(ledger, expression[1])
        if body is None:
            return None
        return ledger.again(body)
    made = ledger.first()
    for part in expression[1]:
        number = ledger_number(ledger, part)
        if number is None:
            return None
        made = ledger.behind(made, number)
    return made
