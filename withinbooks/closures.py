"""What agains and rows of some jobs make in a ledger, of arguments that have been checked."""


def closed_list(ledger, jobs, most):
    """The list of the numbers that expressions of some jobs have in a ledger.

    It ends early with more than `most` numbers, unless that is None. What comes behind the
    numbers found is found by generators: the jobs, and the agains that are not found as
    rows of what is there already.
    """
    found = [ledger.first()]
    known = {found[0]: True}
    generators = [ledger.job(job) for job in jobs]
    at = 0
    while at < len(found) and (most is None or len(found) <= most):
        one = found[at]
        at += 1
        made = [ledger.behind(one, other) for other in generators]
        repeated = ledger.again(one)
        if repeated is not None and repeated not in known and repeated not in generators:
            generators.append(repeated)
            made = made + [ledger.behind(other, repeated) for other in found[:at]]
        for other in made:
            if other not in known:
                known[other] = True
                found.append(other)
    return found


def is_closed(ledger, jobs, numbers):
    """Whether some numbers have that of the empty book, and with each one what jobs and agains make behind it."""
    known = {number: True for number in numbers}
    if ledger.first() not in known:
        return False
    generators = {ledger.job(job): True for job in jobs}
    for number in numbers:
        if ledger.is_steady(number):
            generators[ledger.again(number)] = True
    for other in generators:
        if not all([ledger.behind(number, other) in known for number in numbers]):
            return False
    return True
