"""Texts: the form of an event, and logs written as rows."""

from crossundo.edits import is_content, is_edits, is_name, is_names, is_pair
from crossundo.errors import BadText

# The kinds whose argument is one name, of a document or of an action.
NAMED_KINDS = ("undo", "redo", "take_back", "restore", "save", "close", "forget")
MOST_DIGITS = 3


def is_event(thing):
    """Return whether any object has the form of an event: (kind, argument, footprint)."""
    if not isinstance(thing, tuple) or len(thing) != 3:
        return False
    kind, argument, footprint = thing
    return is_call(kind, argument) and is_names(footprint) and len(footprint) > 0


def is_call(kind, argument):
    """Return whether any two objects are the kind of an event and an argument for it."""
    if not isinstance(kind, str):
        return False
    if kind == "open":
        return is_pair(argument) and is_name(argument[0]) and is_content(argument[1])
    if kind == "do":
        return is_pair(argument) and is_name(argument[0]) and is_edits(argument[1])
    return kind in NAMED_KINDS and is_name(argument)


def show_log(log):
    """Return the text of a log with positions up to 999."""
    return "\n".join([row for event in log for row in event_rows(event)])


def event_rows(event):
    """Return the rows of an event."""
    kind, argument, footprint = event
    last = " ".join(["at", *footprint])
    if kind == "open":
        return [f"open {argument[0]} {argument[1]}", last]
    if kind == "do":
        return [f"do {argument[0]}"] + [edit_row(edit) for edit in argument[1]] + [last]
    return [f"{kind} {argument}", last]


def edit_row(edit):
    """Return the row of an edit."""
    document, position, removed, inserted = edit
    return f"edit {document} {position} {len(removed)} {removed}{inserted}"


def read_log(text):
    """Return the log that any object writes; raise BadText with the first row that cannot stand there."""
    if not isinstance(text, str):
        raise BadText(0)
    rows = text.split("\n") if text else []
    log = []
    at = 0
    while at < len(rows):
        kind, argument, at = read_call(rows, at)
        footprint = read_footprint(row_at(rows, at))
        if footprint is None:
            raise BadText(at)
        log.append((kind, argument, footprint))
        at += 1
    return tuple(log)


def row_at(rows, at):
    """Return the row with this number, an empty one if it is missing: that can stand nowhere either."""
    return rows[at] if at < len(rows) else ""


def read_call(rows, at):
    """Return the kind and the argument that begin in this row, and the number of the row behind them."""
    head = read_head(row_at(rows, at))
    if head is None:
        raise BadText(at)
    kind, argument = head
    if kind != "do":
        return (kind, argument, at + 1)
    edits = read_edits(rows, at + 1)
    if not edits:
        raise BadText(at + 1)
    return (kind, (argument, edits), at + 1 + len(edits))


def read_head(row):
    """Return the kind and what follows it in the first row of an event, None if it is no such row."""
    kind, blank, rest = row.partition(" ")
    if kind == "open":
        document, blank, content = rest.partition(" ")
        # An empty content has its blank, too.
        return (kind, (document, content)) if blank and is_call(kind, (document, content)) else None
    if kind == "do" or kind in NAMED_KINDS:
        return (kind, rest) if is_name(rest) else None
    return None


def read_edits(rows, at):
    """Return as many edits as stand in the rows from this one on, () if none does."""
    edits = ()
    more = (read_edit(row_at(rows, at)),)
    while is_edits(edits + more):
        edits = edits + more
        more = (read_edit(row_at(rows, at + len(edits))),)
    return edits


def read_edit(row):
    """Return what a row writes in the place of an edit, None if it has not as many parts."""
    # Whether these are an edit is for is_edits to tell.
    parts = row.split(" ", 4)
    if len(parts) != 5 or parts[0] != "edit" or not is_number(parts[2]) or not is_number(parts[3]):
        return None
    count = int(parts[3])
    text = parts[4]
    return (parts[1], int(parts[2]), text[:count], text[count:]) if count <= len(text) else None


def is_number(word):
    """Return whether a word is a number of at most three digits, without a leading zero."""
    if not 1 <= len(word) <= MOST_DIGITS or not all("0" <= digit <= "9" for digit in word):
        return False
    return word == "0" or word[0] != "0"


def read_footprint(row):
    """Return the documents that the last row of an event tells, None if it is no such row."""
    word, blank, rest = row.partition(" ")
    footprint = tuple(rest.split(" "))
    return footprint if word == "at" and is_names(footprint) else None
