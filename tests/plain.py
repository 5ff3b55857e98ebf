"""Plain reckonings, by the words of the points and without regard to time."""

import itertools

from tests.anything import same

WORD_SIGNS = "abcdefghijklmnopqrstuvwxyz"


def is_plain_count(value):
    return type(value) is int and value >= 0


def is_plain_word(value):
    return type(value) is str and 1 <= len(value) <= 8 and all(sign in WORD_SIGNS for sign in value)


def is_plain_effect(value):
    rights = [("coins", a) for a in range(4)] + [("fill", a, b) for a in range(4) for b in range(4)]
    return any(same(value, right) for right in rights)


def is_plain_manner(value):
    return (type(value) is tuple and len(value) == 4 and is_plain_word(value[0]) and is_plain_word(value[1])
            and is_plain_word(value[2]) and is_plain_effect(value[3]))


def is_plain_change(value):
    if type(value) is not tuple or not value or type(value[0]) is not str:
        return False
    if value[0] in ["put", "out"]:
        return len(value) == 2 and is_plain_manner(value[1])
    if value[0] == "effect":
        return len(value) == 3 and is_plain_manner(value[1]) and is_plain_effect(value[2])
    return value[0] in ["start", "unstart", "stop", "unstop"] and len(value) == 2 and is_plain_word(value[1])


def plain_worth(effect, ahead, behind):
    """The greatest of the sums between fills, coin by coin."""
    sums = [ahead]
    sums[-1] += effect[1]
    if effect[0] == "fill":
        sums.append(effect[2])
    sums[-1] += behind
    return max(sums)


def plain_beats(effect, other, bound=9):
    counts = list(itertools.product(range(bound), repeat=2))
    return all(plain_worth(effect, x, y) <= plain_worth(other, x, y) for x, y in counts)


def plain_rooms(manual):
    rooms = manual.beginnings() + manual.ends()
    for manner in manual.manners():
        rooms += [manner[0], manner[2]]
    return sorted(set(rooms))


def plain_state(manual):
    return (tuple(manual.manners()), tuple(manual.beginnings()), tuple(manual.ends()))


def plain_change(state, change):
    """The state behind a change, None if it does not fit."""
    lists = [set(part) for part in state]
    at = {"put": 0, "out": 0, "effect": 0, "start": 1, "unstart": 1, "stop": 2, "unstop": 2}[change[0]]
    if change[0] in ["put", "start", "stop"]:
        if change[1] in lists[at]:
            return None
        lists[at].add(change[1])
    else:
        if change[1] not in lists[at]:
            return None
        if change[0] == "effect":
            made = change[1][:3] + (change[2],)
            if made in lists[at]:
                return None
            lists[at].add(made)
        lists[at].remove(change[1])
    return tuple(tuple(sorted(part)) for part in lists)


def plain_changed(state, changes):
    for change in changes:
        if state is not None:
            state = plain_change(state, change)
    return state


def plain_distance(elder, newer, changes):
    """The fewest steps of these changes from one state to another, by going step by step."""
    reached, fresh, steps = {elder}, [elder], 0
    while newer not in reached:
        steps += 1
        fresh = [plain_change(state, change) for state in fresh for change in changes]
        fresh = list({state for state in fresh if state is not None} - reached)
        reached |= set(fresh)
    return steps


def plain_rows(manual, size):
    """All rows of at most so many manners, each in the room to which the one ahead led."""
    rows = [[manner] for manner in manual.manners()] if size else []
    found = list(rows)
    for _ in range(size - 1):
        rows = [row + [manner] for row in rows for manner in manual.manners() if row[-1][2] == manner[0]]
        found += rows
    return found


def plain_parts(manual, book):
    """All beginning parts for all jobs of a book, with the rooms to which they lead."""
    parts = [([], room) for room in manual.beginnings()]
    for job in book:
        parts = [(part + [manner], manner[2]) for part, room in parts for manner in manual.manners()
                 if manner[0] == room and manner[1] == job]
    return parts


def plain_ways(manual, book):
    """All ways of a book."""
    found = []
    for part, room in plain_parts(manual, book):
        if room in manual.ends() and part not in found:
            found.append(part)
    return found


def plain_stretches(way):
    spent, sums = [], []
    for _, _, _, effect in way:
        spent.append(effect[1])
        if effect[0] == "fill":
            sums.append(sum(spent))
            spent = [effect[2]]
    return sums + [sum(spent)]


def plain_need(manual, book):
    needs = [max(plain_stretches(way)) for way in plain_ways(manual, book)]
    return min(needs) if needs else None


def plain_fills(way):
    return len([manner for manner in way if manner[3][0] == "fill"])


def plain_few_ways(manual, book, purse):
    ways = [way for way in plain_ways(manual, book) if max(plain_stretches(way)) <= purse]
    fewest = min([plain_fills(way) for way in ways], default=None)
    return [way for way in ways if plain_fills(way) == fewest]


def plain_dry(manual, book, purse):
    if any(max(plain_stretches(way)) <= purse for way in plain_ways(manual, book)):
        return None
    fitting = [0]
    for many in range(len(book) + 1):
        parts = plain_parts(manual, book[:many])
        if any(max(plain_stretches(part)) <= purse for part, _ in parts):
            fitting.append(many)
    return max(fitting)


def is_plain_paper(manual, book, purse, value):
    """Point 22, sentence by sentence."""
    if type(value) is not list or len(value) != len(book) + 1 or any(type(row) is not dict for row in value):
        return False
    for row in value:
        for room, coins in row.items():
            if type(room) is not str or room not in plain_rooms(manual):
                return False
            if not is_plain_count(coins) or coins > purse:
                return False
    for room in manual.beginnings():
        if room not in value[0] or value[0][room] != purse:
            return False
    for row, below, job in zip(value, value[1:], book):
        for room, own, other, effect in manual.manners():
            if own != job or room not in row or effect[1] > row[room]:
                continue
            if effect[0] == "fill" and effect[2] > purse:
                continue
            left = row[room] - effect[1] if effect[0] == "coins" else purse - effect[2]
            if other not in below or below[other] < left:
                return False
    return not any(room in value[-1] for room in manual.ends())


def is_plain_cover(elder, newer, value):
    """Point 18, sentence by sentence, of a list of tuples of rooms."""
    if type(value) is not list or any(type(pair) is not tuple or len(pair) != 2 for pair in value):
        return False
    if any(type(room) is not str for pair in value for room in pair):
        return False
    if any(pair[0] not in plain_rooms(elder) or pair[1] not in plain_rooms(newer) for pair in value):
        return False
    if value != sorted(set(value)):
        return False
    for room, other in value:
        if room in elder.ends() and other not in newer.ends():
            return False
        for own in [manner for manner in elder.manners() if manner[0] == room]:
            fitting = [manner for manner in newer.manners() if manner[0] == other and manner[1] == own[1]]
            fitting = [manner for manner in fitting if plain_beats(manner[3], own[3])]
            if not any((own[2], manner[2]) in value for manner in fitting):
                return False
    return True


def is_plain_doing_table(elder, newer, value):
    """Point 28, sentence by sentence."""
    if type(value) is not list or any(type(row) is not tuple or len(row) != 2 for row in value):
        return False
    for room, rooms in value:
        if type(room) is not str or room not in plain_rooms(elder) or type(rooms) is not tuple:
            return False
        if any(type(other) is not str or other not in plain_rooms(newer) for other in rooms):
            return False
        if list(rooms) != sorted(set(rooms)):
            return False
    if len(set(value)) != len(value):
        return False
    for room in elder.beginnings():
        if not any(row[0] == room and set(row[1]) <= set(newer.beginnings()) for row in value):
            return False
    for room, rooms in value:
        if room in elder.ends() and not set(rooms) & set(newer.ends()):
            return False
        for own in [manner for manner in elder.manners() if manner[0] == room]:
            led = {manner[2] for manner in newer.manners() if manner[1] == own[1] and manner[0] in rooms}
            if not any(row[0] == own[2] and set(row[1]) <= led for row in value):
                return False
    return True


def plain_counts(manual, sizes):
    """How many books of each size are done, by the sets of rooms to which books lead."""
    jobs = sorted({manner[1] for manner in manual.manners()})
    many = {frozenset(manual.beginnings()): 1}
    counts = []
    for _ in range(sizes):
        counts.append(sum(number for rooms, number in many.items() if rooms & set(manual.ends())))
        behind = {}
        for rooms, number in many.items():
            for job in jobs:
                led = frozenset(m[2] for m in manual.manners() if m[0] in rooms and m[1] == job)
                behind[led] = behind.get(led, 0) + number
        many = behind
    return counts


def plain_growth(manual):
    """Point 29's growth, read off how many books of great sizes are done.

    With at most 8 sets of rooms the numbers come again and again in the same turn; where
    the size is doubled, a power d of it grows by about 2 ** d.
    """
    counts = plain_counts(manual, 1800)
    low, high = max(counts[840:900]), max(counts[1680:1800])
    if high == 0:
        return -1
    power = 0
    while high > low * 2 ** power * 3 // 2:
        power += 1
    return power if power < 12 else None
