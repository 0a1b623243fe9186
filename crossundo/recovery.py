"""Recovery: a workspace from journals that were cut off."""

from crossundo.edits import is_ascending, is_name, is_pair, is_position
from crossundo.errors import BadJournals, BadLog
from crossundo.replaying import replay
from crossundo.texts import is_event


def is_journals(thing):
    """Return whether any object has the form of journals: pairs (document, rows), ascending by document."""
    if not isinstance(thing, tuple) or not all(is_pair(part) for part in thing):
        return False
    if not all(is_name(document) for document, rows in thing) or not is_ascending([pair[0] for pair in thing]):
        return False
    return all(is_rows(rows, document) for document, rows in thing)


def is_rows(thing, document):
    """Return whether any object has the form of the rows of this document's journal."""
    return isinstance(thing, tuple) and all(is_row(row, (document, number)) for number, row in enumerate(thing))


def is_row(thing, place):
    """Return whether any object has the form of a row that stands at this place."""
    if not is_pair(thing):
        return False
    event, places = thing
    if not is_event(event) or not isinstance(places, tuple) or not all(is_place(part) for part in places):
        return False
    return tuple(document for document, number in places) == event[2] and place in places


def is_place(thing):
    """Return whether any object is a place: a document and the number of a row."""
    return is_pair(thing) and is_name(thing[0]) and is_position(thing[1])


def journals_of(workspace):
    """Return the journals of all documents that are or were open."""
    return tuple((document, workspace.journal(document)) for document in sorted(workspace.rows))


def kept(journals):
    """Return, for each document, how many of its rows are kept."""
    return tuple((document, len(rows)) for document, rows in kept_rows(journals).items())


def kept_rows(journals):
    """Return the rows of each document that are kept: the greatest beginnings that need no other rows."""
    left = dict(journals)
    lost = True
    while lost:
        lost = False
        for document in list(left):
            count = whole_rows(left, document)
            if count < len(left[document]):
                left[document] = left[document][:count]
                lost = True
    return left


def whole_rows(left, document):
    """Return how many rows of the document come before the first one that does not stand at all its places."""
    for number, row in enumerate(left[document]):
        if not all(row_in(left, place) == row for place in row[1]):
            return number
    return len(left[document])


def row_in(rows, place):
    """Return the row that stands at a place, None if there is none."""
    document, number = place
    held = rows.get(document, ())
    return held[number] if number < len(held) else None


def recover(journals):
    """Return a workspace with the events of the kept rows; raise BadJournals if there is none."""
    if not is_journals(journals):
        raise BadJournals()
    left = kept_rows(journals)
    try:
        workspace = replay(in_order(left))
    except BadLog:
        raise BadJournals() from None
    # Rows that require each other in a circle come in no order, so their events were not done.
    if journals_of(workspace) != tuple((document, rows) for document, rows in left.items() if rows):
        raise BadJournals()
    return workspace


def in_order(left):
    """Return the events of kept rows, each after the earlier rows of its documents, up to the first circle."""
    counts = {document: 0 for document in left}
    log = []
    row = ready_row(left, counts)
    while row is not None:
        event, places = row
        log.append(event)
        for document, number in places:
            counts[document] = number + 1
        row = ready_row(left, counts)
    return tuple(log)


def ready_row(left, counts):
    """Return a row that comes next in the journals of all its documents, None if there is none."""
    for document in left:
        row = row_in(left, (document, counts[document]))
        if row is not None and all(counts[other] == number for other, number in row[1]):
            return row
    return None
