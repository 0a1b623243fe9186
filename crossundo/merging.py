"""Merging: one log from two that go on from a common past."""

from crossundo.errors import Conflict, DuplicateName
from crossundo.logs import agreement
from crossundo.recovery import kept


def past(log, other):
    """Return, for each document with events in both logs, how many of its events belong to the common past."""
    ours = journals_in(log)
    others = journals_in(other)
    both = sorted(set(ours) & set(others))
    # Where the journals part they are cut off: what is kept then stands at the same places in both logs.
    return kept(tuple((document, beginning(ours[document], others[document])) for document in both))


def merge(log, other):
    """Return the log followed by the new events of the other one."""
    counts = dict(past(log, other))
    ours = new_events(log, counts)
    others = new_events(other, counts)
    documents = sorted(set(documents_of(ours)) & set(documents_of(others)))
    if documents:
        raise Conflict(documents[0])
    names = sorted(set(names_of(ours)) & set(names_of(others)))
    if names:
        raise DuplicateName(names[0])
    return log + tuple(others)


def beginning(rows, others):
    """Return the rows up to the first one at which two journals differ."""
    return tuple(rows[:agreement(rows, others)])


def journals_in(log):
    """Return the rows of each document's journal, in the order of the log."""
    journals = {}
    for row in rows_in(log):
        for document, number in row[1]:
            journals.setdefault(document, []).append(row)
    return journals


def rows_in(log):
    """Return the rows of the events of a log, each once."""
    counts = {}
    rows = []
    for event in log:
        rows.append((event, tuple((document, counts.get(document, 0)) for document in event[2])))
        for document in event[2]:
            counts[document] = counts.get(document, 0) + 1
    return rows


def new_events(log, counts):
    """Return the events of a log that do not belong to the common past, of which each document has so many."""
    return [event for event, places in rows_in(log) if not is_past(places[0], counts)]


def is_past(place, counts):
    """Return whether the event of this place belongs to the common past."""
    # All places of an event belong to it or none, so one of them tells.
    document, number = place
    return number < counts.get(document, 0)


def documents_of(events):
    """Return the documents of the footprints of events."""
    return [document for event in events for document in event[2]]


def names_of(events):
    """Return the names of the actions that events do."""
    return [event[1][0] for event in events if event[0] == "do"]
