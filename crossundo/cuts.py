"""Cuts of a heap: which actions are done, and which of them a press changes."""

from crossundo.edits import is_names
from crossundo.errors import NothingToRedo, NothingToUndo, TooMany
from crossundo.heaps import down, list_of, normal, share, up

MOST_CUTS = 2000


def is_cut(heap, thing):
    """Return whether any object is a cut of the heap: ascending names, with each action all actions below it."""
    if not is_names(thing):
        return False
    known = [name for name, documents in heap]
    return all(name in known for name in thing) and len(down(heap, thing)) == len(thing)


def undo_set(heap, cut, document):
    """Return the names that an undo in the document takes back, in that order; raise NothingToUndo if none."""
    done = [name for name in list_of(heap, document) if name in cut]
    if not done:
        raise NothingToUndo(document)
    return back_set(heap, cut, done[-1])


def redo_set(heap, cut, document):
    """Return the names that a redo in the document restores, in that order; raise NothingToRedo if none."""
    undone = [name for name in list_of(heap, document) if name not in cut]
    if not undone:
        raise NothingToRedo(document)
    return forth_set(heap, cut, undone[0])


def back_set(heap, cut, name):
    """Return the action and all done actions above it, in the order in which they are taken back."""
    return tuple(other for other in up(normal(heap), (name,))[::-1] if other in cut)


def forth_set(heap, cut, name):
    """Return the action and all undone actions below it, in the order in which they are restored."""
    return tuple(other for other in down(normal(heap), (name,)) if other not in cut)


def delete_set(heap, cut, documents):
    """Return the undone actions that touch one of the documents, and all actions above them, in the normal order."""
    undone = [name for name, touched in heap if name not in cut and share(touched, documents)]
    return up(normal(heap), undone)


def cuts_of(heap):
    """Return all cuts, ascending; raise TooMany if there are more than 2000."""
    found = [()]
    for at in range(len(heap)):
        name = heap[at][0]
        needed = supports(heap, at)
        found = found + [cut + (name,) for cut in found if all(other in cut for other in needed)]
        # An action more never makes the cuts fewer, so there is no need to go on.
        if len(found) > MOST_CUTS:
            raise TooMany(MOST_CUTS)
    return tuple(sorted(tuple(sorted(cut)) for cut in found))


def supports(heap, at):
    """Return the names of the actions on which the one with this number rests directly, one for each document."""
    # A cut with the last earlier action of a list has all earlier ones of it, too.
    lists = [list_of(heap[:at], document) for document in heap[at][1]]
    return [names[-1] for names in lists if names]


def presses_to(heap, cut, goal):
    """Return presses that lead from one cut to another: undos from above, then redos from below."""
    ordered = normal(heap)
    undos = [("undo", documents[0]) for name, documents in ordered if name in cut and name not in goal]
    redos = [("redo", documents[0]) for name, documents in ordered if name in goal and name not in cut]
    return tuple(undos[::-1] + redos)


def independent(heap, cut, press, other):
    """Return whether two presses can be done in both orders, each with the same actions."""
    changed = touched_by(heap, press_set(heap, cut, press))
    others = touched_by(heap, press_set(heap, cut, other))
    if not changed or not others:
        return False
    # Actions that share a document are related, and then one press changes what the other finds.
    return not share(changed, others)


def press_set(heap, cut, press):
    """Return the names of the actions that a press changes, () if it cannot be done."""
    kind, document = press
    try:
        if kind == "undo":
            return undo_set(heap, cut, document)
        return redo_set(heap, cut, document)
    except (NothingToUndo, NothingToRedo):
        return ()


def touched_by(heap, names):
    """Return the documents that the actions with these names touch, ascending."""
    return tuple(sorted({document for name, documents in heap if name in names for document in documents}))
