"""Which books can be done whatever they spend, of arguments that have been checked.

A crowd is the ascending tuple of the rooms in which one can be behind some jobs. Each
book leads to just one crowd, so books can be told apart and counted by crowds.
"""

from withinbooks.paths import all_jobs


def goals_of(manual):
    """From each room and job to the rooms to which manners lead."""
    goals = {}
    for manner in manual.manners():
        goals.setdefault(manner[:2], []).append(manner[2])
    return goals


def crowd_behind(goals, crowd, job):
    """The crowd to which a job leads from a crowd."""
    reached = set()
    for room in crowd:
        for other in goals.get((room, job), []):
            reached.add(other)
    return tuple(sorted(reached))


def first_crowd(manual):
    """The crowd of the empty book."""
    return tuple(manual.beginnings())


def crowd_of(manual, book):
    """The crowd to which a book leads."""
    goals = goals_of(manual)
    crowd = first_crowd(manual)
    for job in book:
        crowd = crowd_behind(goals, crowd, job)
    return crowd


def has_end(manual, crowd):
    """Whether some room of a crowd is an end."""
    ends = manual.ends()
    return any([room in ends for room in crowd])


def is_done(manual, book):
    """Whether a manual does a book."""
    return has_end(manual, crowd_of(manual, book))


def crowd_steps(manual):
    """From each crowd that some book leads to, to a dictionary from jobs to the crowds behind them.

    The jobs are ascending; those behind which nobody can be anywhere are left out.
    """
    goals, jobs = goals_of(manual), all_jobs(manual)
    steps = {}
    waiting = [first_crowd(manual)]
    while waiting:
        crowd = waiting.pop()
        if crowd in steps:
            continue
        behind = [(job, crowd_behind(goals, crowd, job)) for job in jobs]
        steps[crowd] = {job: other for job, other in behind if other}
        waiting.extend(list(steps[crowd].values()))
    return steps


def done_counts(manual, size):
    """For each number of jobs up to a size: from each crowd to how many books of these lead on to an end."""
    steps = crowd_steps(manual)
    counts = [{crowd: int(has_end(manual, crowd)) for crowd in steps}]
    for _ in range(size):
        last = counts[-1]
        counts.append({crowd: sum([last[other] for other in steps[crowd].values()]) for crowd in steps})
    return counts


def book_at(manual, counts, number):
    """The book at a position in the ascending list of the done books of the greatest size that is counted."""
    steps = crowd_steps(manual)
    crowd = first_crowd(manual)
    book = []
    left = number
    for last in counts[-2::-1]:
        job = job_at(steps[crowd], last, left)
        left = left - count_ahead(steps[crowd], last, job)
        book.append(job)
        crowd = steps[crowd][job]
    return book


def job_at(behind, last, number):
    """The job that comes next in the book at a position; last counts the books behind it."""
    passed = 0
    for job, crowd in behind.items():
        passed = passed + last[crowd]
        if number < passed:
            return job
    return None


def count_ahead(behind, last, job):
    """How many books come ahead of all those that go on with a job."""
    return sum([last[crowd] for other, crowd in behind.items() if other < job])


def place_of(manual, book):
    """The position of a done book in the ascending list of those of its size."""
    steps = crowd_steps(manual)
    counts = done_counts(manual, len(book))
    crowd = first_crowd(manual)
    place = 0
    for at in range(len(book)):
        place = place + count_ahead(steps[crowd], counts[len(book) - at - 1], book[at])
        crowd = steps[crowd][book[at]]
    return place
