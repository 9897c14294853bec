"""Counts: numbers that tell how often something is taken."""

from rankedfunctions.refusals import OutsideDomain


def check_counts(numbers):
    if min(numbers, default=0) < 0:
        raise OutsideDomain()


def repeated(things, counts):
    """Each of the things as often as the count with its number tells, in order."""
    taken = []
    for thing, count in zip(things, counts):
        taken.extend([thing] * count)
    return taken
