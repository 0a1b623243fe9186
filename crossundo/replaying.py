"""Replaying: a workspace from the log of another one."""

from crossundo.errors import BadLog, UndoError
from crossundo.workspace import Workspace


def replay(log):
    """Return a new workspace in which the events were done; raise BadLog for the first that cannot be done so."""
    workspace = Workspace()
    for number, event in enumerate(log):
        try:
            repeat(workspace, event[0], event[1])
        except UndoError:
            raise BadLog(number) from None
        # The kind and the argument are the event's own: only the footprint can differ.
        if workspace.log()[number:] != (event,):
            raise BadLog(number)
    return workspace


def repeat(workspace, kind, argument):
    """Call the method of which this was the event, and return what it returns."""
    if kind == "open":
        return workspace.open_document(argument[0], argument[1])
    if kind == "do":
        return workspace.do(argument[0], argument[1])
    if kind == "undo":
        return workspace.undo(argument)
    if kind == "redo":
        return workspace.redo(argument)
    if kind == "take_back":
        return workspace.take_back(argument)
    if kind == "restore":
        return workspace.restore(argument)
    if kind == "save":
        return workspace.save(argument)
    if kind == "close":
        return workspace.close(argument)
    if kind == "forget":
        return workspace.forget(argument)
    return None
