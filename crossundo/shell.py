"""A shell: a workspace that is told what to do by lines, and answers by lines."""

from crossundo.edits import is_name
from crossundo.errors import BadCommand, BadText
from crossundo.replaying import repeat
from crossundo.texts import read_call, show_log
from crossundo.workspace import Workspace


class Shell:
    """A workspace behind commands."""

    def __init__(self):
        self.workspace = Workspace()

    def run(self, line):
        """Do one command and return its answer; raise BadCommand if it is none, or what the method raises."""
        if not isinstance(line, str):
            raise BadCommand(line)
        if line == "log":
            return show_log(self.workspace.log())
        word, blank, rest = line.partition(" ")
        if word == "show" and is_name(rest):
            return self.workspace.content(rest)
        if word == "list" and is_name(rest):
            return self.listed(rest)
        kind, argument = read_command(line)
        return answer(kind, repeat(self.workspace, kind, argument))

    def listed(self, document):
        """Return the answer to a command list."""
        applied = told_names(self.workspace.applied(document))
        undone = told_names(self.workspace.undone(document))
        star = "" if self.workspace.is_clean(document) else " *"
        return f"{applied} | {undone}{star}"


def read_command(line):
    """Return the kind and the argument of the event that a line asks for; raise BadCommand if it asks for none."""
    word, blank, rest = line.partition(" ")
    if word == "take_back":
        raise BadCommand(line)
    # The one command that has another name than its event.
    written = "take_" + line if word == "back" else line
    rows = written.split("\n")
    try:
        kind, argument, end = read_call(rows, 0)
    except BadText:
        raise BadCommand(line) from None
    if end < len(rows):
        raise BadCommand(line)
    return (kind, argument)


def answer(kind, result):
    """Return what a shell answers where the method of this kind returned this."""
    if kind in ("open", "save"):
        return "ok"
    if kind == "close":
        final, deleted = result
        return f"{told_names(final)} / {told_names(deleted)}"
    return told_names(result)


def told_names(names):
    """Return names separated by blanks, or a sign for none."""
    return " ".join(names) if names else "-"
