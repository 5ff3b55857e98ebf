"""Plain reckonings of sections 13 and 14, by the words of the points and without regard to time."""

import itertools

from tests.plain import plain_need, plain_parts, plain_stretches, plain_ways
from tests.plain_cards import plain_jobs
from withinbooks.manuals import Manual


def least_of(needs):
    """The least of some needs, None counted as greatest."""
    return min([need for need in needs if need is not None], default=None)


def greatest_of(needs):
    """The greatest of some needs, None counted as greatest."""
    return None if None in needs else max(needs, default=0)


def all_cuts(book):
    """All lists of books that are not empty and, one behind the other, are a book."""
    if not book:
        return [[]]
    return [[book[:size]] + rest for size in range(1, len(book) + 1) for rest in all_cuts(book[size:])]


def plain_followed_by(one, other, book):
    return least_of([greatest_of([plain_need(one, book[:at]), plain_need(other, book[at:])])
                     for at in range(len(book) + 1)])


def plain_repeated(manual, book):
    return least_of([greatest_of([plain_need(manual, piece) for piece in cut]) for cut in all_cuts(book)])


def plain_begun(manual, book):
    """By all ways of all books that begin with this one and are not more than six jobs longer."""
    rooms = list(manual.ends())
    for _ in range(6):
        rooms += [manner[0] for manner in manual.manners() if manner[2] in rooms and manner[0] not in rooms]
    return least_of([max(plain_stretches(part)) for part, room in plain_parts(manual, book) if room in rooms])


def plain_limited(manual, other, book):
    return plain_need(manual, book) if plain_ways(other, book) else None


def does_plainly(manual, book):
    return len(plain_ways(manual, book)) > 0


def all_cuttings(manual, book):
    """All cuttings of a book, but those with empty pieces beside others."""
    if not book:
        return [[[]]] if does_plainly(manual, []) else []
    done = {}
    for start, end in itertools.combinations(range(len(book) + 1), 2):
        done[start, end] = does_plainly(manual, book[start:end])
    found = []
    for many in range(len(book)):
        for places in itertools.combinations(range(1, len(book)), many):
            ends = [0] + list(places) + [len(book)]
            if all(done[start, end] for start, end in zip(ends, ends[1:])):
                found.append([book[start:end] for start, end in zip(ends, ends[1:])])
    return found


def fewest_cuttings(manual, book):
    cuttings = all_cuttings(manual, book)
    fewest = min([len(cutting) for cutting in cuttings], default=None)
    return [cutting for cutting in cuttings if len(cutting) == fewest]


def places_of(cutting):
    return list(itertools.accumulate(len(piece) for piece in cutting))[:-1]


def plain_may_cut(manual, book):
    return sorted({at for cutting in fewest_cuttings(manual, book) for at in places_of(cutting)})


def plain_must_cut(manual, book):
    lists = [places_of(cutting) for cutting in fewest_cuttings(manual, book)]
    return [at for at in lists[0] if all(at in places for places in lists)]


def is_plain_fewest(manual, book, value):
    """Whether any object is a cutting of a book with as few pieces as can be."""
    if type(value) is not list or not value or any(type(piece) is not list for piece in value):
        return False
    if any(type(job) is not str for piece in value for job in piece) or sum(value, []) != book:
        return False
    fewest = fewest_cuttings(manual, book)
    return all(does_plainly(manual, piece) for piece in value) and bool(fewest) and len(value) == len(fewest[0])


def plain_cuts(manual):
    """Point 93, sentence by sentence."""
    made = set()
    for room, job, other, _ in manual.manners():
        made.add((room, job, other, ("coins", 0)))
        for start in manual.beginnings() if other in manual.ends() else []:
            made.add((room, job, start, ("coins", 1)))
    return Manual(list(made), manual.beginnings(), manual.ends())


def all_jobs_of(*manuals):
    return sorted({job for manual in manuals for job in plain_jobs(manual)})
