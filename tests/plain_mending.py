"""Plain reckonings of section 15, by the words of the points and without regard to time."""

from tests.plain import is_plain_word, plain_rooms
from tests.plain_cards import plain_jobs, plain_links
from withinbooks.manuals import Manual


def plain_mended(book, value):
    """The mended book, None if any object is no mending of a book."""
    if type(value) is not list:
        return None
    left, made = list(book), []
    for step in value:
        if type(step) is not tuple or not step or type(step[0]) is not str:
            return None
        word, more = step[0], step[1:]
        if word in ("keep", "leave") and not more and left:
            job = left.pop(0)
            made += [job] if word == "keep" else []
        elif word in ("exchange", "put") and len(more) == 1 and is_plain_word(more[0]):
            if word == "exchange" and (not left or left.pop(0) == more[0]):
                return None
            made.append(more[0])
        else:
            return None
    return None if left else made


def plain_keeps(book, mending, stops):
    left = list(book)
    for step in mending:
        job = None if step[0] == "put" else left.pop(0)
        if step != ("keep",) and (job in stops or any(word in stops for word in step[1:])):
            return False
    return True


def plain_need_of(book, mending, stops):
    """The greatest number of corrections between two neighbouring stops, ahead of the first and behind the last one."""
    left, counts = list(book), [0]
    for step in mending:
        job = None if step[0] == "put" else left.pop(0)
        if step == ("keep",):
            counts += [0] if job in stops else []
        else:
            counts[-1] += 1
    return max(counts)


def all_mendings(book, jobs, stops, most):
    """All mendings that keep the stops, with jobs of a list, that have at most so great a need."""
    others = [job for job in jobs if job not in stops]

    def behind(left, count):
        found = [] if left else [[]]
        if count < most:
            found += [[("put", job)] + rest for job in others for rest in behind(left, count + 1)]
        if not left:
            return found
        found += [[("keep",)] + rest for rest in behind(left[1:], 0 if left[0] in stops else count)]
        if left[0] not in stops and count < most:
            found += [[("leave",)] + rest for rest in behind(left[1:], count + 1)]
            found += [[("exchange", job)] + rest for job in others if job != left[0]
                      for rest in behind(left[1:], count + 1)]
        return found
    return behind(list(book), 0)


def done_mendings(manual, book, stops, most):
    """Those of all mendings the mended book of which can be done: others are left as soon as nobody can go on."""
    others = [job for job in plain_jobs(manual) if job not in stops]

    def led(rooms, job):
        return frozenset(m[2] for m in manual.manners() if m[0] in rooms and m[1] == job)

    def behind(left, count, rooms):
        if not rooms:
            return []
        found = [] if left or not rooms & set(manual.ends()) else [[]]
        if count < most:
            found += [[("put", job)] + rest for job in others for rest in behind(left, count + 1, led(rooms, job))]
        if not left:
            return found
        kept = 0 if left[0] in stops else count
        found += [[("keep",)] + rest for rest in behind(left[1:], kept, led(rooms, left[0]))]
        if left[0] not in stops and count < most:
            found += [[("leave",)] + rest for rest in behind(left[1:], count + 1, rooms)]
            found += [[("exchange", job)] + rest for job in others if job != left[0]
                      for rest in behind(left[1:], count + 1, led(rooms, job))]
        return found
    return behind(list(book), 0, frozenset(manual.beginnings()))


def best_mendings(manual, stops, book):
    """All mendings with the least need, none if there is none: puts between rooms are fewer than the rooms."""
    size, sizes = 0, []
    for job in book:
        size += 1
        if job in stops:
            sizes.append(size - 1)
            size = 0
    longest = max(sizes + [size])
    for most in range(longest + len(plain_rooms(manual))):
        found = done_mendings(manual, book, stops, most)
        if found:
            return found
    return []


def plain_corrections(manual, stops, book):
    """The least need, by the words of point 97."""
    found = best_mendings(manual, stops, book)
    return plain_need_of(book, found[0], stops) if found else None


def plain_steps_between(newer, job, stops):
    """From each two rooms to the mendings of the book of a job between them, with at most three corrections."""
    found = {}
    for mending in all_mendings([job], plain_jobs(newer), stops, 3):
        mended = plain_mended([job], mending)
        for start in plain_rooms(newer):
            for _, goal in plain_links(newer, mended, start):
                found.setdefault((start, goal), []).append(mending)
    return found


def plain_mends(elder, newer, stops):
    """Point 98, sentence by sentence."""
    letters = iter("abcdefghijklmnopqrstuvwxyz")
    names = {(room, other): next(letters) for room in plain_rooms(elder) for other in plain_rooms(newer)}
    between = {job: plain_steps_between(newer, job, stops) for job in plain_jobs(elder)}
    manners = set()
    for room, job, goal, _ in elder.manners():
        for start in plain_rooms(newer):
            for end in plain_rooms(newer):
                mendings = between[job].get((start, end), [])
                for effect in plain_effects(mendings, job in stops):
                    manners.add((names[room, start], job, names[goal, end], effect))
    beginnings = [names[room, other] for room in elder.beginnings() for other in newer.beginnings()]
    return Manual(list(manners), beginnings, [names[room, other] for room in elder.ends() for other in newer.ends()])


def plain_effects(mendings, is_stop):
    if not is_stop:
        counts = [len([step for step in mending if step != ("keep",)]) for mending in mendings]
        return [("coins", min(counts))] if counts else []
    pairs = {(mending.index(("keep",)), len(mending) - mending.index(("keep",)) - 1) for mending in mendings}
    return [("fill",) + pair for pair in pairs
            if not any(other[0] <= pair[0] and other[1] <= pair[1] and other != pair for other in pairs)]
