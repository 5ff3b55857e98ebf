"""Plain reckonings of section 11, by the words of the points and without regard to time."""

import itertools

from tests.plain import is_plain_count, plain_rooms, plain_stretches
from tests.plain_cards import (
    is_plain_card, is_plain_expression, is_plain_table, plain_again, plain_behind, plain_card, plain_expressions,
    plain_jobs, plain_leaves, plain_links, plain_value)


def has_plain_place(expression):
    if type(expression) is str:
        return False
    if expression[0] == "row":
        return any(has_plain_place(part) for part in expression[1])
    return expression[0] == "place" or has_plain_place(expression[1])


def is_plain_open(value):
    return is_plain_expression(value, True) and has_plain_place(value)


def plain_put(frame, expression):
    if type(frame) is str:
        return frame
    if frame[0] == "place":
        return expression
    if frame[0] == "again":
        return ("again", plain_put(frame[1], expression))
    return ("row", [plain_put(part, expression) for part in frame[1]])


def plain_frame_card(manual, frame, card):
    """The card of what has a card put into all places of a frame."""
    jobs = {job: plain_card(manual, [job]) for job in plain_leaves(frame)}
    return frame_card_in(plain_card(manual, []), jobs, frame, card)


def frame_card_in(first, jobs, frame, card):
    if type(frame) is str:
        return jobs[frame]
    if frame[0] == "place":
        return card
    if frame[0] == "again":
        return plain_again(frame_card_in(first, jobs, frame[1], card))
    made = first
    for part in frame[1]:
        made = plain_behind(made, frame_card_in(first, jobs, part, card))
    return made


def kind_of_card(manual, card):
    return {"never": "never", "many": "grows"}.get(plain_value(manual, card), "bounded")


def plain_frames(jobs, size, nesting):
    """All expressions with at most so many jobs and places together, a place among them."""
    found = [one for many in range(1, size + 1) for one in plain_expressions(jobs + ["place"], many, nesting)]
    frames = [with_places(one) for one in found]
    return [frame for frame in frames if has_plain_place(frame)]


def with_places(expression):
    """The job called place becomes a place."""
    if type(expression) is str:
        return ("place",) if expression == "place" else expression
    if expression[0] == "again":
        return ("again", with_places(expression[1]))
    return ("row", [with_places(part) for part in expression[1]])


def plain_parts_them(manual, frame, card, other):
    """Whether a frame parts two cards."""
    kinds = [kind_of_card(manual, plain_frame_card(manual, frame, one)) for one in [card, other]]
    return kinds[0] != kinds[1]


def is_plain_parting_frame(manual, one, other, value):
    """Whether any object is a parting frame for two expressions, given by their cards."""
    if not is_plain_open(value) or not set(plain_leaves(value)) <= set(plain_jobs(manual)):
        return False
    return plain_parts_them(manual, value, one, other)


def is_plain_class_table(manual, value):
    """Point 72, sentence by sentence."""
    if type(value) is not list or any(type(held) is not list for held in value):
        return False
    cards = [card for held in value for card in held]
    if not all(is_plain_card(card, len(plain_rooms(manual))) for card in cards):
        return False
    if any(not held or held != sorted(set(held)) for held in value) or any(cards.count(card) > 1 for card in cards):
        return False
    if not is_plain_table(manual, sorted(cards)):
        return False
    makers = [plain_card(manual, [job]) for job in plain_jobs(manual)]
    makers += [plain_again(card) for card in cards if plain_behind(card, card) == card]
    for held in value:
        if len({kind_of_card(manual, card) for card in held}) > 1:
            return False
        lists = [[plain_behind(maker, card) for card in held] for maker in makers]
        lists += [[plain_behind(card, maker) for card in held] for maker in makers] + [[plain_again(card) for card in held]]
        if not all(any(set(made) <= set(other) for other in value) for made in lists):
            return False
    return True


def plain_need_between(manual, book, room, goal, ahead, behind):
    """Point 74, by all parts of ways."""
    needs = []
    for part, at in plain_links(manual, book, room):
        if at == goal:
            spent = plain_stretches(part)
            spent[0] += ahead
            spent[-1] += behind
            needs.append(max(spent))
    return min(needs) if needs else None


def plain_greatest_stretch(manual, books):
    stretches = [0]
    for book in books:
        for room in plain_rooms(manual):
            for part, _ in plain_links(manual, book, room):
                stretches += plain_stretches(part)
    return max(stretches)


def plain_partings(manual, one, other):
    """All tuples with the fewest coins for which two books need unlike purses, by looking at all within the bound."""
    most = 2 * plain_greatest_stretch(manual, [one, other]) + 1
    rooms = plain_rooms(manual)
    parts = {(book, room): [(plain_stretches(part), at) for part, at in plain_links(manual, list(book), room)]
             for book in [tuple(one), tuple(other)] for room in rooms}

    def need(book, room, goal, ahead, behind):
        needs = []
        for spent, at in parts[tuple(book), room]:
            if at == goal:
                sums = list(spent)
                sums[0] += ahead
                sums[-1] += behind
                needs.append(max(sums))
        return min(needs) if needs else None
    for total in range(2 * most + 1):
        found = []
        for ahead in range(max(0, total - most), min(total, most) + 1):
            for room, goal in itertools.product(rooms, repeat=2):
                if need(one, room, goal, ahead, total - ahead) != need(other, room, goal, ahead, total - ahead):
                    found.append((room, ahead, goal, total - ahead))
        if found:
            return found
    return []


def is_plain_greater(manual, greater):
    """Whether a manual is greater than another one."""
    more = [manner for manner in greater.manners() if manner not in manual.manners()]
    return (all(manner in greater.manners() for manner in manual.manners())
            and all(room in greater.beginnings() for room in manual.beginnings())
            and all(room in greater.ends() for room in manual.ends())
            and not any(manner[1] in plain_jobs(manual) for manner in more))


def is_plain_parting(manual, one, other, value):
    """Whether any object is a tuple for which two books need unlike purses, however many coins it has."""
    if type(value) is not tuple or len(value) != 4 or any(type(room) is not str for room in [value[0], value[2]]):
        return False
    if any(room not in plain_rooms(manual) for room in [value[0], value[2]]):
        return False
    if not is_plain_count(value[1]) or not is_plain_count(value[3]):
        return False
    room, ahead, goal, behind = value
    needs = [plain_need_between(manual, book, room, goal, ahead, behind) for book in [one, other]]
    return needs[0] != needs[1]
