"""Plain reckonings of sections 6 to 8, by the words of the points and without regard to time."""

import functools
import itertools

from tests.drawn import books_up_to
from tests.plain import is_plain_count, is_plain_word, plain_need, plain_parts, plain_rooms, plain_stretches

MARKS = ["full", "free", "some", "many", "never"]
ORDER = ["free", "some", "full", "many", "never"]


def is_plain_mark(value):
    return type(value) is str and value in MARKS


def is_plain_card(value, size):
    if type(value) is not tuple or len(value) != size:
        return False
    return all(type(row) is tuple and len(row) == size and all(is_plain_mark(mark) for mark in row) for row in value)


def is_plain_expression(value, placed=False):
    if type(value) is str:
        return is_plain_word(value)
    if type(value) is not tuple or not value or type(value[0]) is not str:
        return False
    if value[0] == "place" and len(value) == 1:
        return placed
    if value[0] == "again" and len(value) == 2:
        return is_plain_expression(value[1], placed)
    if value[0] == "row" and len(value) == 2:
        return type(value[1]) is list and all(is_plain_expression(part, placed) for part in value[1])
    return False


def is_plain_rests(value, size, purse):
    if type(value) is not tuple or len(value) != size:
        return False
    return all(entry in ("never", "short") if type(entry) is str else is_plain_count(entry) and entry <= purse
               for entry in value)


def plain_jobs(manual):
    return sorted({manner[1] for manner in manual.manners()})


def plain_best(marks):
    """The best of some marks, "never" if there is none."""
    return min(list(marks) + ["never"], key=MARKS.index)


def plain_mark(part):
    """The mark of a part of a way."""
    effects = [manner[3] for manner in part]
    if any(effect[0] == "fill" for effect in effects):
        return "full"
    return "free" if sum(effect[1] for effect in effects) == 0 else "some"


def plain_links(manual, book, room):
    """All parts of ways that do a book from a room, with the rooms to which they lead."""
    links = [([], room)]
    for job in book:
        links = [(part + [manner], manner[2]) for part, at in links for manner in manual.manners()
                 if manner[:2] == (at, job)]
    return links


def plain_card(manual, book):
    rooms = plain_rooms(manual)
    return tuple(tuple(plain_best(plain_mark(part) for part, at in plain_links(manual, book, room) if at == other)
                       for other in rooms) for room in rooms)


def plain_marks_behind(*marks):
    return max(marks, key=ORDER.index)


@functools.lru_cache(maxsize=None)
def plain_behind(one, other):
    size = range(len(one))
    return tuple(tuple(plain_best(plain_marks_behind(one[start][third], other[third][goal]) for third in size)
                       for goal in size) for start in size)


def plain_copies(card, many):
    made = card
    for _ in range(many - 1):
        made = plain_behind(made, card)
    return made


def plain_power(card):
    for many in itertools.count(1):
        made = plain_copies(card, many)
        if plain_behind(made, made) == made:
            return many


@functools.lru_cache(maxsize=None)
def plain_again(card):
    steady = plain_copies(card, plain_power(card))
    size = range(len(card))

    def stay(third):
        return "many" if steady[third][third] == "some" else steady[third][third]
    return tuple(tuple(plain_best(plain_marks_behind(steady[start][third], stay(third), steady[third][goal])
                                  for third in size) for goal in size) for start in size)


def plain_expression_card(manual, expression):
    if type(expression) is str:
        return plain_card(manual, [expression])
    if expression[0] == "again":
        return plain_again(plain_expression_card(manual, expression[1]))
    made = plain_card(manual, [])
    for part in expression[1]:
        made = plain_behind(made, plain_expression_card(manual, part))
    return made


def plain_value(manual, card):
    rooms = plain_rooms(manual)
    return plain_best(card[rooms.index(start)][rooms.index(goal)]
                      for start in manual.beginnings() for goal in manual.ends())


def plain_kind(manual, expression):
    value = plain_value(manual, plain_expression_card(manual, expression))
    return {"never": "never", "many": "grows"}.get(value, "bounded")


def plain_written(manuals, expression, number):
    """The book that is an expression written for a number, by the words of point 36."""
    if type(expression) is str:
        return [expression]
    if expression[0] == "row":
        return [job for part in expression[1] for job in plain_written(manuals, part, number)]
    cards = [plain_expression_card(manual, expression[1]) for manual in manuals]
    power = 1
    while any(plain_behind(made, made) != made for made in [plain_copies(card, power) for card in cards]):
        power += 1
    most = max(len(plain_rooms(manual)) for manual in manuals) or 1
    return plain_written(manuals, expression[1], number) * ((number + 1) * most * power)


def plain_leaves(expression):
    if type(expression) is str:
        return [expression]
    if expression[0] == "again":
        return plain_leaves(expression[1])
    return [job for part in expression[1] for job in plain_leaves(part)] if expression[0] == "row" else []


def plain_nesting(expression):
    if type(expression) is str or expression[0] == "place":
        return 0
    if expression[0] == "again":
        return 1 + plain_nesting(expression[1])
    return max([0] + [plain_nesting(part) for part in expression[1]])


def plain_closed(first, jobs, behind, again):
    """The least list with the first thing, and with each what each job, and each again of a steady one, makes behind."""
    found, made = [first], {}
    while True:
        makers = jobs + [again(one) for one in found if behind(one, one) == one]
        for one, maker in itertools.product(found, makers):
            if (one, maker) not in made:
                made[one, maker] = behind(one, maker)
        fresh = sorted(set(made.values()) - set(found))
        if not fresh:
            return sorted(found)
        found = found + fresh


def plain_table(manual):
    jobs = [plain_card(manual, [job]) for job in plain_jobs(manual)]
    return plain_closed(plain_card(manual, []), jobs, plain_behind, plain_again)


def is_plain_closed(value, first, jobs, behind, again):
    """Whether an ascending list has what a table needs."""
    if value != sorted(value) or any(value.count(one) > 1 for one in value) or first not in value:
        return False
    makers = jobs + [again(one) for one in value if behind(one, one) == one]
    return all(behind(one, maker) in value for one in value for maker in makers)


def is_plain_table(manual, value):
    if type(value) is not list or not all(is_plain_card(card, len(plain_rooms(manual))) for card in value):
        return False
    jobs = [plain_card(manual, [job]) for job in plain_jobs(manual)]
    return is_plain_closed(value, plain_card(manual, []), jobs, plain_behind, plain_again)


def plain_expressions(jobs, size, nesting):
    """All expressions with just so many jobs and at most a nesting, but for rows in rows and rows of nothing."""
    made = []
    for rows in plain_rows_of_parts(jobs, size, nesting):
        made.append(rows[0] if len(rows) == 1 else ("row", rows))
    return made


def plain_rows_of_parts(jobs, size, nesting):
    if size == 0:
        return [[]]
    return [[part] + row for first in range(1, size + 1) for part in plain_part(jobs, first, nesting)
            for row in plain_rows_of_parts(jobs, size - first, nesting)]


def plain_part(jobs, size, nesting):
    """All jobs, and agains of expressions, with so many jobs."""
    parts = list(jobs) if size == 1 else []
    if nesting > 0:
        parts += [("again", body) for body in plain_expressions(jobs, size, nesting - 1)]
    return parts


def plain_books_of(manual, expression, most):
    """The books of an expression, as tuples, that have at most so many jobs."""
    if type(expression) is str:
        return {(expression,)} if most >= 1 else set()
    if expression[0] == "row":
        books = {()}
        for part in expression[1]:
            books = put_behind(books, plain_books_of(manual, part, most), most)
        return books
    body = plain_books_of(manual, expression[1], most)
    once = {()}
    for _ in range(plain_power(plain_expression_card(manual, expression[1]))):
        once = put_behind(once, body, most)
    books, fresh = set(once), once
    while fresh:
        fresh = put_behind(fresh, once, most) - books
        books |= fresh
    return books


def put_behind(books, others, most):
    return {book + other for book in books for other in others if len(book) + len(other) <= most}


def plain_rests(manual, purse, book):
    """The rests that a book leaves, by all its beginning parts."""
    parts = plain_parts(manual, book)
    rests = []
    for room in plain_rooms(manual):
        leading = [plain_stretches(part) for part, at in parts if at == room]
        within = [purse - spent[-1] for spent in leading if max(spent) <= purse]
        rests.append(max(within) if within else "short" if leading else "never")
    return tuple(rests)


def plain_rests_behind(manual, purse, left, job):
    """The rests behind one job more, manner by manner."""
    rooms = plain_rooms(manual)
    held = dict(zip(rooms, left))
    rests = []
    for room in rooms:
        leading = [manner for manner in manual.manners()
                   if manner[1] == job and manner[2] == room and held[manner[0]] != "never"]
        within = []
        for start, _, _, effect in leading:
            if held[start] == "short" or effect[1] > held[start]:
                continue
            if effect[0] == "coins":
                within.append(held[start] - effect[1])
            elif effect[2] <= purse:
                within.append(purse - effect[2])
        rests.append(max(within) if within else "short" if leading else "never")
    return tuple(rests)


def plain_bad(manual, rests):
    """Whether rests are bad."""
    held = dict(zip(plain_rooms(manual), rests))
    entries = [held[room] for room in manual.ends()]
    return any(entry != "never" for entry in entries) and not any(type(entry) is int for entry in entries)


def is_plain_rest_table(manual, purse, value):
    size = len(plain_rooms(manual))
    if type(value) is not list or not all(is_plain_rests(left, size, purse) for left in value):
        return False
    if any(value.count(left) > 1 for left in value) or plain_rests(manual, purse, []) not in value:
        return False
    if any(plain_bad(manual, left) for left in value):
        return False
    return all(plain_rests_behind(manual, purse, left, job) in value for left in value for job in plain_jobs(manual))


def plain_needs(manual, size):
    """The needs of all books of at most so many of the manual's jobs that can be done, shorter books first."""
    needs = [(book, plain_need(manual, book)) for book in books_up_to(plain_jobs(manual), size)]
    return [(book, need) for book, need in needs if need is not None]
