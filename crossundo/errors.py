"""The errors of the package, each with what it is about as its attribute."""


class UndoError(ValueError):
    """What all errors of the package have in common."""


class BadName(UndoError):
    """This is not a name."""

    def __init__(self, name):
        self.name = name


class BadContent(UndoError):
    """This is not a content."""

    def __init__(self, value):
        self.value = value


class BadEdits(UndoError):
    """These are not edits."""

    def __init__(self, edits):
        self.edits = edits


class NoDocument(UndoError):
    """No such document is open."""

    def __init__(self, document):
        self.document = document


class AlreadyOpen(UndoError):
    """The document is open already."""

    def __init__(self, document):
        self.document = document


class DuplicateName(UndoError):
    """An action with this name was done before."""

    def __init__(self, name):
        self.name = name


class EditMismatch(UndoError):
    """The edit does not fit the content of its document."""

    def __init__(self, document):
        self.document = document


class NothingToUndo(UndoError):
    """No done action touches the document."""

    def __init__(self, document):
        self.document = document


class NothingToRedo(UndoError):
    """No undone action touches the document."""

    def __init__(self, document):
        self.document = document


class NothingToForget(UndoError):
    """No done action touches the document, so none can become final."""

    def __init__(self, document):
        self.document = document


class NoAction(UndoError):
    """The heap has no action with this name."""

    def __init__(self, name):
        self.name = name


class AlreadyUndone(UndoError):
    """The action is undone already."""

    def __init__(self, name):
        self.name = name


class AlreadyDone(UndoError):
    """The action is done already."""

    def __init__(self, name):
        self.name = name


class TooMany(UndoError):
    """There are more cuts than the limit."""

    def __init__(self, limit):
        self.limit = limit


class BadLog(UndoError):
    """The event with this number cannot be done as the log says."""

    def __init__(self, number):
        self.number = number


class BadJournals(UndoError):
    """These are not journals from which a workspace can be recovered."""


class BadText(UndoError):
    """The row with this number cannot stand there."""

    def __init__(self, row):
        self.row = row


class BadCommand(UndoError):
    """This is not a command."""

    def __init__(self, line):
        self.line = line


class Conflict(UndoError):
    """The document has new events in both logs."""

    def __init__(self, document):
        self.document = document
