"""Replaying: a workspace from the log of another one."""

from crossundo.errors import BadLog, UndoError
from crossundo.workspace import Workspace


def replay(log):
    """Return a new workspace in which the events were done; raise BadLog for the first that cannot be done so."""
    workspace = Workspace()
    for number, event in enumerate(log):
        try:
            repeat(workspace, event[0], event[1])
        except UndoError:
            raise BadLog(number) from None
        # The kind and the argument are the event's own: only the footprint can differ.
        if workspace.log()[number:] != (event,):
            raise BadLog(number)
    return workspace


def repeat(workspace, kind, argument):
    """Call the method of which this was the event."""
    if kind == "open":
        workspace.open_document(argument[0], argument[1])
    elif kind == "do":
        workspace.do(argument[0], argument[1])
    elif kind == "undo":
        workspace.undo(argument)
    elif kind == "redo":
        workspace.redo(argument)
    elif kind == "take_back":
        workspace.take_back(argument)
    elif kind == "restore":
        workspace.restore(argument)
    elif kind == "save":
        workspace.save(argument)
    elif kind == "close":
        workspace.close(argument)
    elif kind == "forget":
        workspace.forget(argument)
