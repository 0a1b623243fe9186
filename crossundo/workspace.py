"""A workspace: open documents, and one history of the actions that edit them."""

from crossundo.cuts import back_set, delete_set, forth_set, redo_set, touched_by, undo_set
from crossundo.edits import MOST_CHARACTERS, apply, inverse, is_content, is_edits, is_name
from crossundo.errors import AlreadyDone, AlreadyOpen, AlreadyUndone, BadContent, BadEdits, BadName, DuplicateName
from crossundo.errors import NoAction, NoDocument, NothingToForget
from crossundo.heaps import down, list_of, normal


class Workspace:
    """Open documents with one heap and one cut, and the log of what was done.

    A method that may raise makes all its checks before its first change.
    """

    def __init__(self):
        # Of each open document: its content, its final actions, and what was applied at its last save.
        self.contents = {}
        self.finals = {}
        self.saves = {}
        # The edits of the actions of the heap, earlier ones first, and which of these actions are done.
        self.actions = {}
        self.done = {}
        self.used = {}
        self.events = []
        # The journals, also of closed documents.
        self.rows = {}

    def open_document(self, document, content=""):
        """Open a document with this content and an empty list."""
        if not is_name(document):
            raise BadName(document)
        if document in self.contents:
            raise AlreadyOpen(document)
        if not is_content(content):
            raise BadContent(content)
        self.contents[document] = content
        self.finals[document] = []
        self.saves[document] = ()
        self.rows.setdefault(document, [])
        self.record("open", (document, content), (document,))

    def documents(self):
        """Return the names of the open documents, ascending."""
        return tuple(sorted(self.contents))

    def content(self, document):
        """Return the content of an open document."""
        self.check_open(document)
        return self.contents[document]

    def do(self, name, edits):
        """Do a new action; return the names of the undone actions that it deletes."""
        self.check_new(name)
        changed = self.edited(edits)
        heap = self.heap()
        deleted = delete_set(heap, self.cut(), list(changed))
        footprint = tuple(changed) + touched_by(heap, deleted)
        self.drop(deleted)
        self.contents.update(changed)
        self.actions[name] = edits
        self.done[name] = True
        self.used[name] = True
        self.record("do", (name, edits), footprint)
        return deleted

    def undo(self, document):
        """Take back the last done action of the document and all done actions above it; return their names."""
        self.check_open(document)
        names = undo_set(self.heap(), self.cut(), document)
        self.unapply("undo", document, names)
        return names

    def redo(self, document):
        """Restore the first undone action of the document and all undone actions below it; return their names."""
        self.check_open(document)
        names = redo_set(self.heap(), self.cut(), document)
        self.reapply("redo", document, names)
        return names

    def applied(self, document):
        """Return the names of the actions applied to the document since it was opened, in order."""
        self.check_open(document)
        return tuple(self.finals[document] + self.done_in(document))

    def undone(self, document):
        """Return the names of the undone actions of the document's list, in order."""
        self.check_open(document)
        return tuple(name for name in list_of(self.unsorted_heap(), document) if name not in self.done)

    def take_back(self, name):
        """Take back the action and all done actions above it; return their names."""
        self.check_action(name)
        if name not in self.done:
            raise AlreadyUndone(name)
        names = back_set(self.heap(), self.cut(), name)
        self.unapply("take_back", name, names)
        return names

    def restore(self, name):
        """Restore the action and all undone actions below it; return their names."""
        self.check_action(name)
        if name in self.done:
            raise AlreadyDone(name)
        names = forth_set(self.heap(), self.cut(), name)
        self.reapply("restore", name, names)
        return names

    def heap(self):
        """Return the heap in the normal order."""
        return normal(self.unsorted_heap())

    def cut(self):
        """Return the cut: the names of the done actions of the heap, ascending."""
        return tuple(sorted(self.done))

    def edits_of(self, name):
        """Return the edits of an action of the heap."""
        self.check_action(name)
        return self.actions[name]

    def save(self, document):
        """Remember the actions that are applied to the document now."""
        self.check_open(document)
        self.saves[document] = self.applied(document)
        self.record("save", document, (document,))

    def is_clean(self, document):
        """Return whether the actions applied to the document are those of its last save."""
        return self.applied(document) == self.saves[document]

    def close(self, document):
        """Close a document; return the names of the actions that become final, and of those that are deleted."""
        self.check_open(document)
        heap = self.heap()
        final = down(heap, self.done_in(document))
        deleted = delete_set(heap, self.cut(), (document,))
        footprint = (document,) + touched_by(heap, final + deleted)
        self.settle(final)
        self.drop(deleted)
        del self.contents[document]
        del self.finals[document]
        del self.saves[document]
        self.record("close", document, footprint)
        return (final, deleted)

    def forget(self, document):
        """Make the first done action of the document final, and all below it; return their names."""
        self.check_open(document)
        done = self.done_in(document)
        if not done:
            raise NothingToForget(document)
        heap = self.heap()
        final = down(heap, done[:1])
        self.settle(final)
        self.record("forget", document, touched_by(heap, final))
        return final

    def log(self):
        """Return all events in their order."""
        return tuple(self.events)

    def journal(self, document):
        """Return the rows of a document that is or was open."""
        if not is_name(document) or document not in self.rows:
            raise NoDocument(document)
        return tuple(self.rows[document])

    def state(self):
        """Return the open documents, the actions of the heap, and all names that were ever used."""
        documents = [(document, self.contents[document], self.applied(document), self.saves[document])
                     for document in self.documents()]
        actions = [(name, self.actions[name], name in self.done) for name, touched in self.heap()]
        return (tuple(documents), tuple(actions), tuple(sorted(self.used)))

    def check_open(self, document):
        """Raise NoDocument if no such document is open, whatever the object is."""
        if not is_name(document) or document not in self.contents:
            raise NoDocument(document)

    def check_action(self, name):
        """Raise NoAction if the heap has no such action, whatever the object is."""
        if not is_name(name) or name not in self.actions:
            raise NoAction(name)

    def check_new(self, name):
        """Raise an error if no new action can have this name, whatever the object is."""
        if not is_name(name):
            raise BadName(name)
        if name in self.used:
            raise DuplicateName(name)

    def edited(self, edits):
        """Return the new contents of the documents that are edited; raise an error if the edits cannot be done."""
        if not is_edits(edits):
            raise BadEdits(edits)
        for edit in edits:
            self.check_open(edit[0])
        changed = {edit[0]: apply(self.contents[edit[0]], edit) for edit in edits}
        for content in changed.values():
            if len(content) > MOST_CHARACTERS:
                raise BadContent(content)
        return changed

    def unsorted_heap(self):
        """Return the heap in the order in which its actions were done first: soon made, with the same lists."""
        return tuple((name, tuple(edit[0] for edit in edits)) for name, edits in self.actions.items())

    def done_in(self, document):
        """Return the names of the done actions of the document's list, in order."""
        return [name for name in list_of(self.unsorted_heap(), document) if name in self.done]

    def unapply(self, kind, argument, names):
        """Take back these actions in this order, as one event."""
        for name in names:
            self.apply_all([inverse(edit) for edit in self.actions[name]])
            del self.done[name]
        self.record_press(kind, argument, names)

    def reapply(self, kind, argument, names):
        """Restore these actions in this order, as one event."""
        for name in names:
            self.apply_all(self.actions[name])
            self.done[name] = True
        self.record_press(kind, argument, names)

    def apply_all(self, edits):
        """Apply edits to the contents of their documents."""
        for edit in edits:
            self.contents[edit[0]] = apply(self.contents[edit[0]], edit)

    def drop(self, names):
        """Delete these undone actions from the heap."""
        for name in names:
            del self.actions[name]

    def settle(self, names):
        """Let these done actions leave the heap; their edits stay."""
        for name in names:
            for edit in self.actions[name]:
                self.finals[edit[0]].append(name)
            del self.actions[name]
            del self.done[name]

    def record_press(self, kind, argument, names):
        """Add an event that took back or restored these actions."""
        # The document of a press is among those that its actions touch.
        self.record(kind, argument, touched_by(self.unsorted_heap(), names))

    def record(self, kind, argument, documents):
        """Add an event to the log, and its row to the journals of the documents, given in any order."""
        footprint = tuple(sorted(set(documents)))
        event = (kind, argument, footprint)
        places = tuple((document, len(self.rows[document])) for document in footprint)
        self.events.append(event)
        for document in footprint:
            self.rows[document].append((event, places))
