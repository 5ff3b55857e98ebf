"""Words that stand for new rooms and jobs."""

LETTERS = "abcdefghijklmnopqrstuvwxyz"


def word_at(place):
    """The word at a place: the words of one letter first, then those of two, and so on."""
    word = ""
    left = place
    while left >= 0:
        word = LETTERS[left % len(LETTERS)] + word
        left = left // len(LETTERS) - 1
    return word


def new_words(taken, many):
    """So many words that are none of those that are taken."""
    # Of this many words at most as many as are taken are not new.
    words = [word_at(place) for place in range(len(taken) + many)]
    return [word for word in words if word not in taken][:many]


def words_for(things):
    """From each of some unlike things to a word of its own."""
    return {thing: word_at(place) for place, thing in enumerate(things)}
