"""What effects are worth, of arguments that have been checked."""

# Numbers in effects are at most 3: four coins on a side outweigh all of them, so if
# one effect is worth more anywhere, it is with no coins or four coins on the sides.
TELLING_SIDES = ((0, 0), (4, 0), (0, 4), (4, 4))


def worth(effect, ahead, behind):
    """The most that is spent without a fill between."""
    if effect[0] == "coins":
        return ahead + effect[1] + behind
    return max(ahead + effect[1], effect[2] + behind)


def sides_apart(effect, other):
    """Counts for which the effect is worth more than the other one, None if it never is."""
    for ahead, behind in TELLING_SIDES:
        if worth(effect, ahead, behind) > worth(other, ahead, behind):
            return (ahead, behind)
    return None


def is_never_more(effect, other):
    """Whether an effect beats another one."""
    return sides_apart(effect, other) is None
