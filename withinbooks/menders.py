"""Mendings of books, of arguments that have been checked.

Between stops a book is mended job by job. A row tells for each room to which a mending of
some first jobs leads the fewest corrections, and by which step it comes there, and from
where: a put comes from a room of the same row, each other step from one of the row ahead.
"""

from withinbooks.crowds import is_done
from withinbooks.joined import does_nothing
from withinbooks.shapes import has_word_form

KEEP = ("keep",)
LEAVE = ("leave",)


def has_step_form(value):
    """Whether any object is a step of a mending by its form."""
    if not isinstance(value, tuple) or not value or not isinstance(value[0], str):
        return False
    if value[0] in ("keep", "leave"):
        return len(value) == 1
    return value[0] in ("exchange", "put") and len(value) == 2 and has_word_form(value[1])


def step_rows(book, value):
    """The tuples of a step and the job that it takes (None for a put), None if any object is no mending of a book."""
    if not isinstance(value, list) or not all([has_step_form(step) for step in value]):
        return None
    rows = []
    at = 0
    for step in value:
        if step[0] == "put":
            rows.append((step, None))
            continue
        if at == len(book) or step == ("exchange", book[at]):
            return None
        rows.append((step, book[at]))
        at += 1
    return rows if at == len(book) else None


def mended_book(rows):
    """The book that steps, with the jobs that they take, make."""
    kept = [(step, job) for step, job in rows if step != LEAVE]
    return [job if step == KEEP else step[1] for step, job in kept]


def keeps_stops(rows, stops):
    """Whether no step touches a stop, puts one in or exchanges a job for one."""
    for step, job in rows:
        if step != KEEP and (job in stops or (len(step) == 2 and step[1] in stops)):
            return False
    return True


def need_of_steps(rows, stops):
    """The greatest number of corrections between two stops that steps go through."""
    counts = [0]
    for step, job in rows:
        if step != KEEP:
            counts[-1] += 1
        elif job in stops:
            counts.append(0)
    return max(counts)


def offer(row, room, cost, ahead, step):
    """Take a step to a room into a row if it has fewer corrections; whether it has."""
    if room in row and row[room][0] <= cost:
        return False
    row[room] = (cost, ahead, step)
    return True


class Mender:
    """Mendings for a manual that keep some stops."""

    def __init__(self, manual, stops):
        self._manual = manual
        self._stops = stops
        self._free = [manner for manner in manual.manners() if manner[1] not in stops]

    def _put_in(self, row):
        """Take all puts into a row."""
        found = True
        while found:
            found = False
            for room, job, other, _ in self._free:
                if room in row and offer(row, other, row[room][0] + 1, room, ("put", job)):
                    found = True

    def _row_behind(self, row, job):
        """The row behind one job more, which is no stop."""
        made = {}
        for room, held in row.items():
            offer(made, room, held[0] + 1, room, LEAVE)
        for room, other_job, other, _ in self._free:
            if room in row and other_job == job:
                offer(made, other, row[room][0], room, KEEP)
            elif room in row:
                offer(made, other, row[room][0] + 1, room, ("exchange", other_job))
        self._put_in(made)
        return made

    def rows_from(self, start, jobs):
        """The rows of some jobs that are no stops, from a room: one for each number of first jobs."""
        rows = [{start: (0, None, None)}]
        self._put_in(rows[0])
        for job in jobs:
            rows.append(self._row_behind(rows[-1], job))
        return rows

    def fewest_from(self, start, jobs):
        """From each room to which some jobs that are no stops lead from a room to the fewest corrections."""
        return {room: held[0] for room, held in self.rows_from(start, jobs)[-1].items()}

    def _steps_to(self, start, jobs, goal):
        """The steps with the fewest corrections by which some jobs that are no stops lead between two rooms."""
        rows = self.rows_from(start, jobs)
        steps = []
        at, room = len(jobs), goal
        while rows[at][room][2] is not None:
            _, ahead, step = rows[at][room]
            steps.append(step)
            if step[0] != "put":
                at -= 1
            room = ahead
        return steps[::-1]

    def parts(self, book):
        """The lists of jobs of a book ahead of, between and behind its stops, and the stops."""
        lists, stops = [[]], []
        for job in book:
            if job in self._stops:
                stops.append(job)
                lists.append([])
            else:
                lists[-1].append(job)
        return (lists, stops)

    def _worst_behind(self, worst, jobs, stop):
        """The rooms behind some jobs and a stop, with the least need of a mending, and where it comes from."""
        made = {}
        doing = [(room, other) for room, job, other, _ in self._manual.manners() if job == stop]
        for start, held in worst.items():
            costs = self.fewest_from(start, jobs)
            for room, other in doing:
                if room in costs:
                    offer(made, other, max(held[0], costs[room]), start, room)
        return made

    def _worst_at_end(self, worst, jobs):
        """The ends behind the last jobs, with the least need of a mending, and where it comes from."""
        made = {}
        for start, held in worst.items():
            costs = self.fewest_from(start, jobs)
            for room in self._manual.ends():
                if room in costs:
                    offer(made, room, max(held[0], costs[room]), start, room)
        return made

    def _worst_rows(self, book):
        """For each number of stops the rooms to which a mending leads up to it, and for the whole book."""
        lists, stops = self.parts(book)
        rows = [{room: (0, None, None) for room in self._manual.beginnings()}]
        for jobs, stop in zip(lists, stops):
            rows.append(self._worst_behind(rows[-1], jobs, stop))
        return rows + [self._worst_at_end(rows[-1], lists[-1])]

    def least(self, book):
        """The least need of a mending of a book, None if it has none."""
        needs = [held[0] for held in self._worst_rows(book)[-1].values()]
        return min(needs, default=None)

    def best(self, book):
        """A mending of a book with the least need, None if it has none."""
        rows = self._worst_rows(book)
        if not rows[-1]:
            return None
        lists, _ = self.parts(book)
        room = min([(held[0], end) for end, held in rows[-1].items()])[1]
        mending = []
        for at in range(len(lists) - 1, -1, -1):
            _, start, last = rows[at + 1][room]
            steps = self._steps_to(start, lists[at], last)
            mending = steps + ([KEEP] + mending if at + 1 < len(lists) else mending)
            room = start
        return mending


def is_any_best(manual, stops, book, value):
    """Whether any object is a mending of a book with the least need."""
    rows = step_rows(book, value)
    if rows is None or not keeps_stops(rows, stops) or not is_done(manual, mended_book(rows)):
        return False
    return need_of_steps(rows, stops) == Mender(manual, stops).least(book)


def nothing_to_mend(elder, newer, stops):
    """The least need of a mending of the empty book, None if it has none or the elder manual does not do it."""
    if not does_nothing(elder):
        return None
    return Mender(newer, stops).least([])
