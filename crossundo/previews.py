"""Previews: what a call would do to a workspace, without doing it."""

from crossundo.cuts import delete_set, redo_set, undo_set
from crossundo.heaps import down, up


def would_undo(workspace, document):
    """Return what undo in this document would return, or raise what it would raise."""
    workspace.check_open(document)
    return undo_set(workspace.heap(), workspace.cut(), document)


def would_redo(workspace, document):
    """Return what redo in this document would return, or raise what it would raise."""
    workspace.check_open(document)
    return redo_set(workspace.heap(), workspace.cut(), document)


def would_delete(workspace, documents):
    """Return the names of the actions that a new action on these documents would delete."""
    return delete_set(workspace.heap(), workspace.cut(), documents)


def survivors(workspace, documents):
    """Return the names of the undone actions that a new action on these documents would keep."""
    gone = workspace.cut() + would_delete(workspace, documents)
    return tuple(name for name, touched in workspace.heap() if name not in gone)


def carries(workspace, name):
    """Return the names of the action and of all actions above it."""
    workspace.check_action(name)
    return up(workspace.heap(), (name,))


def rests_on(workspace, name):
    """Return the names of the action and of all actions below it."""
    workspace.check_action(name)
    return down(workspace.heap(), (name,))
