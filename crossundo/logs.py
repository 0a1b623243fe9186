"""Logs: which of them tell the same of each document, though their events stand in another order."""


def alike(log, other):
    """Return whether exchanges of neighbours without a common document turn one log into the other."""
    # Such exchanges change the events of no document, and where these are the same, exchanges() finds the way.
    return difference(log, other) is None


def exchanges(log, other):
    """Return the numbers of the exchanges that turn one log into the other, None if there are none."""
    if not alike(log, other):
        return None
    numbers = []
    left = list(log)
    for at, event in enumerate(other):
        # All that stands ahead of it comes later in the other log, so it shares no document with it.
        ahead = left.index(event)
        del left[ahead]
        numbers.extend([at + step for step in reversed(range(ahead))])
    return tuple(numbers)


def difference(log, other):
    """Return the first document whose events differ, and the number where they do; None if the logs are alike."""
    ours = events_by_document(log)
    others = events_by_document(other)
    for document in sorted(set(ours) | set(others)):
        here = ours.get(document, [])
        there = others.get(document, [])
        number = agreement(here, there)
        if number < max(len(here), len(there)):
            return (document, number)
    return None


def events_by_document(log):
    """Return, for each document, the events whose footprints contain it, in their order."""
    found = {}
    for event in log:
        for document in event[2]:
            found.setdefault(document, []).append(event)
    return found


def agreement(here, there):
    """Return how many parts are the same, counted from the beginning of both."""
    number = 0
    while number < min(len(here), len(there)) and here[number] == there[number]:
        number += 1
    return number
