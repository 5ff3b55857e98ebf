"""Drawn manuals and books: the same ones in each run."""

import itertools
import random

from withinbooks.manuals import Manual

EFFECTS = [("coins", a) for a in range(4)] + [("fill", a, b) for a in range(4) for b in range(4)]
ROOMS = ["a", "b", "c", "d", "e", "f"]
JOBS = ["x", "y", "z", "zz"]


def drawn_manual(draw, rooms, jobs, manners, fills=0.5):
    """A manual of at most so many rooms, jobs and manners."""
    chosen = []
    for _ in range(manners):
        if draw.random() < fills:
            effect = ("fill", draw.randrange(4), draw.randrange(4))
        else:
            effect = ("coins", draw.randrange(4))
        manner = (draw.choice(ROOMS[:rooms]), draw.choice(JOBS[:jobs]), draw.choice(ROOMS[:rooms]), effect)
        if manner not in chosen:
            chosen.append(manner)
    return Manual(chosen, few_rooms(draw, rooms), few_rooms(draw, rooms))


def few_rooms(draw, rooms):
    """Mostly one room alone, so that rooms are far from one another; sometimes none, or several."""
    return draw.sample(ROOMS[:rooms], min(rooms, draw.choice([0, 1, 1, 1, 1, 2, 2, 3])))


def drawn_manuals(seed, many, rooms=3, jobs=2, manners=6, fills=0.5):
    """So many manuals; those with nothing in one of the lists, or in all, come first."""
    draw = random.Random(seed)
    stay = ("a", "x", "a", ("coins", 1))
    made = [Manual([], [], []), Manual([], ["a"], ["a"]), Manual([stay], [], ["a"]), Manual([stay], ["a"], [])]
    while len(made) < many:
        most = draw.choice([1, rooms, rooms, rooms])
        made.append(drawn_manual(draw, most, draw.randint(1, jobs), draw.randint(0, manners), fills))
    return made


def drawn_pairs(seed, many, rooms=2, jobs=2, manners=5):
    """So many pairs of manuals, the second one sometimes the first one with little changed."""
    draw = random.Random(seed)
    elders = drawn_manuals(seed, many, rooms, jobs, manners)
    newers = drawn_manuals(seed + 1, many, rooms, jobs, manners)
    draw.shuffle(newers)
    pairs = []
    for elder, newer in zip(elders, newers):
        if draw.random() < 0.5:
            newer = drawn_neighbour(draw, elder)
        pairs.append((elder, newer))
    return pairs


def drawn_neighbour(draw, manual):
    """A manual with other effects here and there, and one manner less or more."""
    manners = []
    for manner in manual.manners():
        effect = draw.choice(EFFECTS) if draw.random() < 0.4 else manner[3]
        if draw.random() < 0.9 and manner[:3] + (effect,) not in manners:
            manners.append(manner[:3] + (effect,))
    extra = (draw.choice(ROOMS[:2]), draw.choice(JOBS[:2]), draw.choice(ROOMS[:2]), draw.choice(EFFECTS))
    if draw.random() < 0.5 and extra not in manners:
        manners.append(extra)
    ends = [room for room in manual.ends() if draw.random() < 0.9]
    return Manual(manners, manual.beginnings(), ends)


def close_pairs(seed, many, jobs=2, manners=5):
    """So many pairs that do much the same, so that what is spent tells whether the newer one stays within."""
    draw = random.Random(seed)
    pairs = []
    while len(pairs) < many:
        elder = drawn_manual(draw, 2, jobs, manners, 0.3)
        elder = Manual(elder.manners(), ["a"], draw.choice([["a"], ["b"], ["a", "b"]]))
        newer = []
        for manner in elder.manners():
            effect = draw.choice([("coins", 0), ("coins", 1), ("fill", 0, 0)]) if draw.random() < 0.5 else manner[3]
            if manner[:3] + (effect,) not in newer:
                newer.append(manner[:3] + (effect,))
        pairs.append((elder, Manual(newer, elder.beginnings(), elder.ends())))
    return pairs


def books_of_size(jobs, size):
    """All books of so many of these jobs, ascending."""
    return [list(book) for book in itertools.product(sorted(jobs), repeat=size)]


def books_up_to(jobs, size):
    """All books of at most so many of these jobs."""
    return [book for length in range(size + 1) for book in books_of_size(jobs, length)]


def widest_manual(seed, rooms=4, jobs=4, manners=16, fills=0.3):
    """A manual with just as many rooms, jobs and manners as these, all rooms beginnings and ends."""
    draw = random.Random(seed)
    chosen = []
    while len(chosen) < manners or len({manner[1] for manner in chosen}) < jobs:
        chosen = []
        while len(chosen) < manners:
            effect = draw.choice(EFFECTS[:4]) if draw.random() > fills else draw.choice(EFFECTS[4:])
            manner = (draw.choice(ROOMS[:rooms]), draw.choice(JOBS[:jobs]), draw.choice(ROOMS[:rooms]), effect)
            if manner not in chosen:
                chosen.append(manner)
    return Manual(chosen, ROOMS[:rooms], ROOMS[:rooms])
