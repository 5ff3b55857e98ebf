"""How fast the number of done books grows with their size, of arguments that have been checked."""

from withinbooks.crowds import crowd_steps, has_end


def reached_crowds(steps):
    """From each crowd to a dictionary of those to which one job or more lead."""
    reached = {}
    for crowd in steps:
        found = {}
        waiting = list(steps[crowd].values())
        while waiting:
            other = waiting.pop()
            if other not in found:
                found[other] = True
                waiting.extend(list(steps[other].values()))
        reached[crowd] = found
    return reached


def living_rings(manual, steps, reached):
    """The crowds from which some row of jobs leads to themselves, and some row to an end."""
    final = [crowd for crowd in steps if has_end(manual, crowd)]
    rings = [crowd for crowd in steps if crowd in reached[crowd]]
    return [ring for ring in rings if any([crowd in reached[ring] for crowd in final])]


def ways_back(steps, reached, ring):
    """The jobs with which a row of jobs begins that leads from a ring to itself."""
    return [job for job, crowd in steps[ring].items() if ring in reached[crowd]]


def longest_chain(rings, reached):
    """The most rings that can stand one behind the other; rings that lead to each other are one.

    A ring that leads to another one, but not back, reaches more crowds than that does:
    so those that reach the fewest are taken first.
    """
    chains = {}
    for ring in sorted(rings, key=lambda crowd: len(reached[crowd])):
        behind = [chains[other] for other in chains if other in reached[ring] and ring not in reached[other]]
        chains[ring] = 1 + max(behind, default=0)
    return max(list(chains.values()), default=0)


def growth_of(manual):
    """-1 for finitely many done books, None for more than any power of the size, otherwise the power."""
    steps = crowd_steps(manual)
    reached = reached_crowds(steps)
    rings = living_rings(manual, steps, reached)
    # Two unlike ways back can be gone in any row, which doubles the books again and again.
    if any([len(ways_back(steps, reached, ring)) > 1 for ring in rings]):
        return None
    return longest_chain(rings, reached) - 1
