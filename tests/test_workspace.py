"""Workspaces: points [2], [13], [14], [15] and [16], by hand and with wrong arguments."""

import inspect
import itertools
import unittest

from crossundo.workspace import Workspace
from tests.samples import DOCUMENTS, Hostile, doc_workspace, drawn_workspace, is_plain, mark, nested, no_names
from tests.samples import other_kinds, told

PARAMETERS = {
    "open_document": ["document", "content"], "documents": [], "content": ["document"], "do": ["name", "edits"],
    "undo": ["document"], "redo": ["document"], "applied": ["document"], "undone": ["document"],
    "take_back": ["name"], "restore": ["name"], "heap": [], "cut": [], "edits_of": ["name"], "save": ["document"],
    "is_clean": ["document"], "close": ["document"], "forget": ["document"], "log": [], "journal": ["document"],
    "state": [],
}
WITH_DOCUMENT = [method for method, names in PARAMETERS.items() if names == ["document"]]
WITH_NAME = [method for method, names in PARAMETERS.items() if names == ["name"]]


def three():
    """Return the workspace of the document's examples, with x, y and z done."""
    workspace = Workspace()
    workspace.open_document("a", "one")
    workspace.open_document("b", "two")
    workspace.open_document("c", "six")
    workspace.do("x", (("a", 0, "one", "ONE"), ("b", 0, "two", "TWO")))
    workspace.do("y", (("b", 3, "", "!"), ("c", 0, "s", "m")))
    workspace.do("z", (("c", 3, "", "?"),))
    return workspace


class Checks(unittest.TestCase):

    def refuses(self, workspace, error, value, method, *arguments):
        """Check the error and its value, and that the call changes nothing."""
        before = (workspace.state(), workspace.log())
        result = told(getattr(workspace, method), *arguments)
        self.assertEqual(result[0], error, method)
        self.assertEqual(len(result), 2)
        if isinstance(value, str):
            self.assertEqual(result[1], value, method)
        else:
            self.assertIs(result[1], value, method)
        self.assertEqual((workspace.state(), workspace.log()), before, method)


class InterfaceTest(Checks):

    def test_each_method_is_defined_in_the_class_itself(self):
        for method, names in PARAMETERS.items():
            self.assertIn(method, vars(Workspace))
            parameters = list(inspect.signature(getattr(Workspace, method)).parameters)
            self.assertEqual(parameters, ["self", *names], method)

    def test_arguments_by_name_in_another_order(self):
        w = Workspace()
        self.assertIsNone(w.open_document(content="one", document="a"))
        self.assertIsNone(w.open_document(document="b"))
        self.assertEqual(w.do(edits=(("a", 3, "", "!"),), name="x"), ())
        self.assertEqual(w.content(document="a"), "one!")
        self.assertEqual(w.undo(document="a"), ("x",))
        self.assertEqual(w.undone(document="a"), ("x",))
        self.assertEqual(w.redo(document="a"), ("x",))
        self.assertEqual(w.applied(document="a"), ("x",))
        self.assertEqual(w.take_back(name="x"), ("x",))
        self.assertEqual(w.restore(name="x"), ("x",))
        self.assertEqual(w.edits_of(name="x"), (("a", 3, "", "!"),))
        self.assertIs(w.is_clean(document="a"), False)
        self.assertIsNone(w.save(document="a"))
        self.assertEqual(len(w.journal(document="a")), 7)
        self.assertEqual(w.forget(document="a"), ("x",))
        self.assertEqual(w.close(document="a"), ((), ()))

    def test_only_the_kinds_of_values_that_are_named(self):
        for seed in range(10):
            w = drawn_workspace(seed, 60)
            results = [w.documents(), w.heap(), w.cut(), w.log(), w.state()]
            for document in w.documents():
                results.extend([w.content(document), w.applied(document), w.undone(document), w.is_clean(document),
                                w.journal(document)])
                results.extend(told(getattr(w, method), document) for method in ("undo", "redo", "forget", "save"))
            for name, _ in w.heap():
                results.extend([w.edits_of(name), told(w.take_back, name), told(w.restore, name)])
            results.append(w.do("fresh", mark(*w.documents()[:1])))
            results.extend(w.close(document) for document in w.documents())
            self.assertTrue(is_plain(tuple(results)))

    def test_what_only_tells_changes_nothing_and_tells_the_same_again(self):
        for seed in range(10):
            w = drawn_workspace(seed, 60)
            before = (w.state(), w.log())
            for _ in range(2):
                first = [w.documents(), w.heap(), w.cut(), w.log(), w.state()]
                for method in ("content", "applied", "undone", "is_clean", "journal"):
                    first.extend(told(getattr(w, method), document) for document in DOCUMENTS)
                first.extend(w.edits_of(name) for name, _ in w.heap())
                again = [w.documents(), w.heap(), w.cut(), w.log(), w.state()]
                for method in ("content", "applied", "undone", "is_clean", "journal"):
                    again.extend(told(getattr(w, method), document) for document in DOCUMENTS)
                again.extend(w.edits_of(name) for name, _ in w.heap())
                self.assertEqual(first, again)
            self.assertEqual((w.state(), w.log()), before)

    def test_workspaces_are_apart(self):
        one = three()
        other = Workspace()
        self.assertEqual(other.documents(), ())
        self.assertEqual(other.heap(), ())
        self.assertEqual(other.cut(), ())
        self.assertEqual(other.log(), ())
        self.assertEqual(other.state(), ((), (), ()))
        other.open_document("a", "else")
        other.do("x", mark("a"))
        self.assertEqual(one.content("a"), "ONE")


class OpenTest(Checks):

    def test_the_edges(self):
        w = Workspace()
        for document, content in (("a", ""), ("abcdefgh", "x" * 400), ("z", " ~" * 200)):
            self.assertIsNone(w.open_document(document, content))
            self.assertEqual(w.content(document), content)
            self.assertEqual((w.applied(document), w.undone(document)), ((), ()))
        self.assertEqual(w.documents(), ("a", "abcdefgh", "z"))
        self.assertEqual(w.heap(), ())

    def test_eight_documents_ascending(self):
        w = Workspace()
        for document in "hbdface":
            w.open_document(document)
        self.assertEqual(w.documents(), tuple("abcdefh"))
        w.open_document("g")
        self.assertEqual(w.documents(), DOCUMENTS)

    def test_bad_names(self):
        w = three()
        for thing in no_names():
            self.refuses(w, "BadName", thing, "open_document", thing)
            self.refuses(w, "BadName", thing, "open_document", thing, "good")
            self.refuses(w, "BadName", thing, "open_document", thing, "x" * 401)
            self.refuses(w, "BadName", thing, "open_document", thing, thing)

    def test_already_open_comes_before_bad_content(self):
        w = three()
        for thing in ("", "good", "x" * 401, *other_kinds()):
            self.refuses(w, "AlreadyOpen", "a", "open_document", "a", thing)

    def test_bad_content(self):
        w = three()
        for thing in ("x" * 401, "%", "\n", "a\tb", "\x7f", "\x1f", "\u00e9", "\udc80", *other_kinds()):
            self.refuses(w, "BadContent", thing, "open_document", "d", thing)
        self.assertEqual(w.documents(), ("a", "b", "c"))
        self.refuses(w, "NoDocument", "d", "content", "d")

    def test_a_refused_document_can_be_opened_later(self):
        w = Workspace()
        self.refuses(w, "BadContent", "%", "open_document", "a", "%")
        w.open_document("a", "fine")
        self.assertEqual(w.content("a"), "fine")


class WrongArgumentsTest(Checks):

    def test_no_document(self):
        w = three()
        w.undo("c")
        for thing in (*no_names(), "d", "x", "aa"):
            for method in WITH_DOCUMENT:
                self.refuses(w, "NoDocument", thing, method, thing)

    def test_no_document_in_an_empty_workspace(self):
        w = Workspace()
        for thing in (*no_names(), "a"):
            for method in WITH_DOCUMENT:
                self.refuses(w, "NoDocument", thing, method, thing)

    def test_no_document_after_closing(self):
        w = three()
        w.close("a")
        for method in WITH_DOCUMENT:
            if method != "journal":
                self.refuses(w, "NoDocument", "a", method, "a")
        self.assertEqual(len(w.journal("a")), 3)

    def test_no_action(self):
        w = three()
        w.undo("c")
        for thing in (*no_names(), "w", "a", "xx"):
            for method in WITH_NAME:
                self.refuses(w, "NoAction", thing, method, thing)

    def test_no_action_once_deleted_or_final(self):
        w = three()
        w.undo("b")
        w.do("v", mark("c"))
        self.assertEqual(w.cut(), ("v", "x"))
        w.forget("a")
        for name in ("x", "y", "z"):
            for method in WITH_NAME:
                self.refuses(w, "NoAction", name, method, name)

    def test_already_done_and_undone(self):
        w = three()
        for name in ("x", "y", "z"):
            self.refuses(w, "AlreadyDone", name, "restore", name)
        w.take_back("y")
        for name in ("y", "z"):
            self.refuses(w, "AlreadyUndone", name, "take_back", name)
        self.refuses(w, "AlreadyDone", "x", "restore", "x")

    def test_nothing_to_do(self):
        w = Workspace()
        w.open_document("a")
        self.refuses(w, "NothingToUndo", "a", "undo", "a")
        self.refuses(w, "NothingToRedo", "a", "redo", "a")
        self.refuses(w, "NothingToForget", "a", "forget", "a")
        w.do("x", mark("a"))
        self.refuses(w, "NothingToRedo", "a", "redo", "a")
        w.undo("a")
        self.refuses(w, "NothingToUndo", "a", "undo", "a")
        self.refuses(w, "NothingToForget", "a", "forget", "a")
        w.redo("a")
        w.forget("a")
        for error, method in (("NothingToUndo", "undo"), ("NothingToRedo", "redo"), ("NothingToForget", "forget")):
            self.refuses(w, error, "a", method, "a")

    def test_lists_and_dicts_are_not_changed(self):
        w = three()
        letters = iter("abc")
        for method in WITH_DOCUMENT + WITH_NAME + ["open_document"]:
            told(getattr(w, method), letters)
        told(w.do, "w", letters)
        told(w.do, letters, ())
        told(w.open_document, "d", letters)
        self.assertEqual(list(letters), ["a", "b", "c"])
        edits = [["a", 0, "", "x"]]
        self.refuses(w, "BadEdits", edits, "do", "w", edits)
        self.assertEqual(edits, [["a", 0, "", "x"]])


class DoTest(Checks):

    bad_edits = [(), (("a", 0, "", ""),) * 2, [("a", 0, "", "")], (["a", 0, "", ""],), ("a", 0, "", ""),
                 (("b", 0, "", ""), ("a", 0, "", "")), (("A", 0, "", ""),), (("a", -1, "", ""),),
                 (("a", True, "", ""),), (("a", 0, "%", ""),), (("a", 0, "", "x" * 401),), (("a", 0, ""),),
                 tuple((document, 0, "", "") for document in "abcde"), "", "a", nested(tuple), nested(list), None, 0,
                 {}, {"a": 1}, True, Hostile(), (Hostile(),), (("a", 0, "", Hostile()),), (("a", Hostile(), "", ""),)]

    def test_bad_name_comes_first(self):
        w = three()
        for thing in no_names():
            for edits in (mark("a"), (), None, mark("d"), (("a", 9, "q", ""),), thing):
                self.refuses(w, "BadName", thing, "do", thing, edits)

    def test_duplicate_name_comes_second(self):
        w = three()
        w.undo("b")
        self.assertEqual(w.do("v", mark("b")), ("y", "z"))
        self.assertEqual((w.forget("b"), w.forget("b"), w.heap()), (("x",), ("v",), ()))
        self.assertEqual(w.state()[2], ("v", "x", "y", "z"))
        for name in ("v", "x", "y", "z"):
            for edits in (mark("a"), mark("d"), (("a", 9, "q", ""),), *self.bad_edits):
                self.refuses(w, "DuplicateName", name, "do", name, edits)

    def test_duplicate_name_of_an_undone_action_and_of_a_closed_document(self):
        w = three()
        w.undo("c")
        self.refuses(w, "DuplicateName", "z", "do", "z", mark("a"))
        for document in "abc":
            w.close(document)
        w.open_document("a")
        for name in ("x", "y", "z"):
            self.refuses(w, "DuplicateName", name, "do", name, mark("a"))

    def test_bad_edits_come_third(self):
        w = three()
        for edits in (*self.bad_edits, *other_kinds()):
            self.refuses(w, "BadEdits", edits, "do", "w", edits)
        closed = (("d", 0, "", "%"),)
        self.refuses(w, "BadEdits", closed, "do", "w", closed)

    def test_no_document_comes_fourth(self):
        w = three()
        self.refuses(w, "NoDocument", "d", "do", "w", mark("d"))
        self.refuses(w, "NoDocument", "d", "do", "w", (("a", 99, "", ""), ("d", 0, "", "")))
        self.refuses(w, "NoDocument", "d", "do", "w", mark("d", "e", "f"))
        self.refuses(w, "NoDocument", "bb", "do", "w", mark("a", "b", "bb", "z"))
        self.refuses(w, "NoDocument", "d", "do", "w", (("a", 0, "", "x" * 400), ("d", 0, "", "")))
        w.close("a")
        self.refuses(w, "NoDocument", "a", "do", "w", mark("a", "b"))

    def test_edit_mismatch_comes_fifth(self):
        w = three()
        self.assertEqual([w.content(document) for document in "abc"], ["ONE", "TWO!", "mix?"])
        for edit in (("a", 4, "", ""), ("a", 0, "one", ""), ("a", 3, "x", ""), ("a", 2, "E!", ""), ("a", 0, "ONE!", ""),
                     ("a", 10 ** 5000, "", ""), ("a", 1, "O", "O")):
            self.refuses(w, "EditMismatch", "a", "do", "w", (edit,))
            self.refuses(w, "EditMismatch", "a", "do", "w", (edit, ("b", 99, "", "")))
            self.refuses(w, "EditMismatch", "a", "do", "w", (edit, ("b", 0, "", "x" * 400)))
        self.refuses(w, "EditMismatch", "b", "do", "w", (("a", 3, "", ""), ("b", 0, "W", ""), ("c", 9, "", "")))
        # The first document would become too long, but the second edit does not fit at all.
        self.refuses(w, "EditMismatch", "b", "do", "w", (("a", 0, "", "x" * 400), ("b", 9, "", "")))

    def test_bad_content_comes_last(self):
        w = three()
        long = "x" * 398
        self.refuses(w, "BadContent", long + "ONE", "do", "w", (("a", 0, "", long),))
        self.refuses(w, "BadContent", "O" + long + "NE", "do", "w", (("a", 1, "", long), ("b", 0, "", long)))
        self.refuses(w, "BadContent", "TWO!" + long, "do", "w", (("a", 0, "O", ""), ("b", 4, "", long), ("c", 0, "", long)))
        self.refuses(w, "BadContent", "mix" + "y" * 400, "do", "w", (("c", 3, "?", "y" * 400),))

    def test_four_hundred_characters_are_allowed(self):
        w = three()
        self.assertEqual(w.do("w", (("a", 3, "", "x" * 397), ("b", 0, "TWO!", "y" * 400))), ())
        self.assertEqual((w.content("a"), w.content("b")), ("ONE" + "x" * 397, "y" * 400))
        self.refuses(w, "BadContent", "!" + "y" * 400, "do", "v", mark("b"))
        w.do("v", (("b", 0, "y" * 400, ""),))
        self.assertEqual(w.content("b"), "")
        w.undo("b")
        self.assertEqual(w.content("b"), "y" * 400)

    def test_a_refused_name_is_not_used(self):
        w = three()
        for edits in (None, mark("d"), (("a", 9, "", ""),), (("a", 0, "", "x" * 400),)):
            self.assertNotEqual(told(w.do, "w", edits)[0], "returned")
            self.assertEqual(w.state()[2], ("x", "y", "z"))
        self.assertEqual(w.do("w", mark("a")), ())
        self.assertEqual(w.state()[2], ("w", "x", "y", "z"))

    def test_a_refused_action_deletes_nothing(self):
        w = three()
        w.undo("a")
        for edits in (mark("a", "d"), (("a", 9, "", ""),), (("a", 0, "", "x" * 400),)):
            self.assertNotEqual(told(w.do, "w", edits)[0], "returned")
            self.assertEqual(w.undone("b"), ("x", "y"))
        self.assertEqual(w.restore("z"), ("x", "y", "z"))

    def test_edits_with_nothing_to_change(self):
        w = three()
        self.assertEqual(w.do("w", (("a", 3, "", ""), ("b", 0, "TWO", "TWO"))), ())
        self.assertEqual((w.content("a"), w.content("b")), ("ONE", "TWO!"))
        self.assertEqual(w.undo("a"), ("w",))
        self.assertEqual(w.applied("b"), ("x", "y"))

    def test_what_is_deleted_and_in_which_order(self):
        w = doc_workspace(*"abcd")
        for name, documents in (("m", "ab"), ("l", "bc"), ("k", "d"), ("j", "cd"), ("i", "a")):
            w.do(name, mark(*documents))
        self.assertEqual(w.take_back("m"), ("j", "l", "i", "m"))
        self.assertEqual(w.take_back("k"), ("k",))
        # l lies above m, j above l and k; i above m.
        self.assertEqual(w.do("new", mark("b")), ("m", "i", "l", "j"))
        self.assertEqual((w.heap(), w.cut()), ((("k", ("d",)), ("new", ("b",))), ("new",)))
        self.assertEqual(w.do("newer", mark("b")), ())
        self.assertEqual(w.do("newest", mark("a", "c", "d")), ("k",))
        self.assertEqual([w.content(document) for document in "abcd"], ["!a", "!!b", "!c", "!d"])

    def test_a_new_action_is_on_top_of_the_done_ones(self):
        w = doc_workspace("a", "b")
        w.do("z", mark("a"))
        w.do("y", mark("b"))
        w.do("x", mark("a", "b"))
        self.assertEqual(w.heap(), (("y", ("b",)), ("z", ("a",)), ("x", ("a", "b"))))
        self.assertEqual(w.applied("a"), ("z", "x"))
        self.assertEqual(w.cut(), ("x", "y", "z"))


class PressesTest(Checks):

    def test_undo_and_redo_along_a_chain(self):
        w = three()
        self.assertEqual(w.undo("a"), ("z", "y", "x"))
        self.assertEqual([w.content(document) for document in "abc"], ["one", "two", "six"])
        self.assertEqual((w.cut(), w.undone("c")), ((), ("y", "z")))
        self.assertEqual(w.redo("c"), ("x", "y"))
        self.assertEqual(w.redo("c"), ("z",))
        self.assertEqual([w.content(document) for document in "abc"], ["ONE", "TWO!", "mix?"])
        self.assertEqual(w.undo("b"), ("z", "y"))
        self.assertEqual(w.redo("b"), ("y",))

    def test_take_back_and_restore(self):
        w = three()
        self.assertEqual(w.take_back("z"), ("z",))
        self.assertEqual(w.take_back("x"), ("y", "x"))
        self.assertEqual(w.restore("y"), ("x", "y"))
        self.assertEqual(w.restore("z"), ("z",))
        self.assertEqual(w.edits_of("z"), (("c", 3, "", "?"),))
        self.assertEqual(w.heap(), (("x", ("a", "b")), ("y", ("b", "c")), ("z", ("c",))))

    def test_edits_of_an_undone_action(self):
        w = three()
        w.undo("a")
        self.assertEqual(w.edits_of("y"), (("b", 3, "", "!"), ("c", 0, "s", "m")))

    def test_survivors_are_restored_around_new_actions(self):
        w = three()
        w.undo("a")
        self.assertEqual(w.do("v", mark("c")), ("y", "z"))
        self.assertEqual(w.undone("a"), ("x",))
        self.assertEqual(w.redo("b"), ("x",))
        self.assertEqual([w.content(document) for document in "abc"], ["ONE", "TWO", "!six"])


class ZigzagTest(Checks):

    def zigzag(self, count, names):
        w = doc_workspace(*DOCUMENTS[:count])
        for at, name in enumerate(names):
            w.do(name, mark(*DOCUMENTS[at:at + 2]))
        return w

    def test_zigzags_of_two_to_eight_documents(self):
        for count, rising in itertools.product(range(2, 9), (True, False)):
            names = tuple("klmnopq"[:count - 1]) if rising else tuple("klmnopq"[:count - 1][::-1])
            w = self.zigzag(count, names)
            marked = ["!" * (1 if at in (0, count - 1) else 2) + DOCUMENTS[at] for at in range(count)]
            plain = list(DOCUMENTS[:count])
            contents = [w.content(document) for document in w.documents()]
            self.assertEqual(contents, marked)
            self.assertEqual(tuple(name for name, _ in w.heap()), names)
            self.assertEqual(w.undo("a"), names[::-1])
            self.assertEqual([w.content(document) for document in w.documents()], plain)
            last = DOCUMENTS[count - 1]
            self.assertEqual(w.redo(last), names)
            self.assertEqual([w.content(document) for document in w.documents()], marked)
            for at in range(count - 1, 0, -1):
                self.assertEqual(w.undo(DOCUMENTS[at]), (names[at - 1],))
            for at in range(count - 1):
                self.assertEqual(w.redo(DOCUMENTS[at]), (names[at],))

    def test_a_new_action_in_the_middle(self):
        for count in range(3, 9):
            names = tuple("qponmlk"[:count - 1])
            for at in range(count):
                w = self.zigzag(count, names)
                w.undo("a")
                # The action before the document survives unless it touches it.
                kept = names[:max(at - 1, 0)]
                self.assertEqual(w.do("new", mark(DOCUMENTS[at])), names[len(kept):])
                self.assertEqual(w.cut(), ("new",))
                if kept:
                    self.assertEqual(w.restore(kept[-1]), kept)

    def test_closing_one_end(self):
        for count in range(2, 9):
            names = tuple("klmnopq"[:count - 1])
            w = self.zigzag(count, names)
            self.assertEqual(w.close(DOCUMENTS[count - 1]), (names, ()))
            self.assertEqual(w.heap(), ())
            w = self.zigzag(count, names)
            self.assertEqual(w.close("a"), (names[:1], ()))
            self.assertEqual(tuple(name for name, _ in w.heap()), names[1:])
            w = self.zigzag(count, names)
            w.undo("a")
            self.assertEqual(w.close("a"), ((), names))
            w = self.zigzag(count, names)
            w.undo("a")
            self.assertEqual(w.close(DOCUMENTS[count - 1]), ((), names[-1:]))


if __name__ == "__main__":
    unittest.main()
