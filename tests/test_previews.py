"""Previews: point [17], against what the same call does in a copy."""

import itertools
import unittest

from crossundo.previews import carries, rests_on, survivors, would_delete, would_redo, would_undo
from crossundo.replaying import replay
from crossundo.workspace import Workspace
from tests.samples import DOCUMENTS, doc_workspace, drawn_workspace, half_undone, is_plain, mark, no_names, pairs_below
from tests.samples import told


def workspaces():
    """Return workspaces after drawn calls, half of them with many undone actions."""
    return [drawn_workspace(seed, 50, 3 + seed % 4) for seed in range(15)] + [half_undone(seed, 35) for seed in range(15)]


class Checks(unittest.TestCase):

    def preview(self, function, workspace, argument):
        """Return what a preview returns or raises; check that it changes nothing and tells the same again."""
        before = (workspace.state(), workspace.log())
        result = told(function, workspace, argument)
        again = told(function, workspace, argument)
        self.assertEqual(again[0], result[0])
        self.assertTrue(again[1] is result[1] or again[1] == result[1])
        self.assertEqual((workspace.state(), workspace.log()), before)
        return result


class PressesTest(Checks):

    def test_against_a_copy(self):
        for workspace in workspaces():
            for document in DOCUMENTS:
                for function, method in ((would_undo, "undo"), (would_redo, "redo")):
                    expected = told(getattr(replay(workspace.log()), method), document)
                    self.assertEqual(self.preview(function, workspace, document), expected)

    def test_of_anything(self):
        workspace = half_undone(1, 30)
        for thing in (*no_names(), "zz"):
            for function in (would_undo, would_redo):
                error, value = self.preview(function, workspace, thing)
                self.assertEqual(error, "NoDocument")
                self.assertIs(value, thing)

    def test_nothing_to_do(self):
        workspace = doc_workspace("a")
        self.assertEqual(self.preview(would_undo, workspace, "a"), ("NothingToUndo", "a"))
        self.assertEqual(self.preview(would_redo, workspace, "a"), ("NothingToRedo", "a"))
        workspace.do("x", mark("a"))
        workspace.forget("a")
        self.assertEqual(self.preview(would_undo, workspace, "a"), ("NothingToUndo", "a"))
        workspace.close("a")
        self.assertEqual(self.preview(would_undo, workspace, "a"), ("NoDocument", "a"))


class DeletionTest(Checks):

    def test_all_sets_of_open_documents(self):
        deleted_count = kept_count = 0
        for workspace in workspaces():
            pairs = pairs_below(workspace.heap())
            undone = [name for name, _ in workspace.heap() if name not in workspace.cut()]
            for size in range(len(workspace.documents()) + 1):
                for documents in itertools.combinations(workspace.documents(), size):
                    starts = [name for name, touched in workspace.heap() if name in undone and set(touched) & set(documents)]
                    gone = {name for name in undone if name in starts or any((start, name) in pairs for start in starts)}
                    deleted = tuple(name for name in undone if name in gone)
                    kept = tuple(name for name in undone if name not in gone)
                    self.assertEqual(self.preview(would_delete, workspace, documents), ("returned", deleted))
                    self.assertEqual(self.preview(survivors, workspace, documents), ("returned", kept))
                    deleted_count += len(deleted)
                    kept_count += len(kept)
        self.assertGreater(deleted_count, 100)
        self.assertGreater(kept_count, 100)

    def test_against_a_copy(self):
        for workspace in workspaces():
            for size in range(1, min(4, len(workspace.documents())) + 1):
                for documents in itertools.combinations(workspace.documents(), size):
                    copy = replay(workspace.log())
                    expected = copy.do("fresh", mark(*documents))
                    left = tuple(name for name, _ in workspace.heap()
                                 if name in dict(copy.heap()) and name not in copy.cut())
                    self.assertEqual(would_delete(workspace, documents), expected)
                    self.assertEqual(survivors(workspace, documents), left)

    def test_no_documents(self):
        for workspace in (Workspace(), *workspaces()):
            undone = tuple(name for name, _ in workspace.heap() if name not in workspace.cut())
            self.assertEqual(would_delete(workspace, ()), ())
            self.assertEqual(survivors(workspace, ()), undone)

    def test_eight_documents(self):
        workspace = doc_workspace(*DOCUMENTS)
        for name, document in zip("stuvwxyz", DOCUMENTS[::-1]):
            workspace.do(name, mark(document))
        for document in DOCUMENTS:
            workspace.undo(document)
        self.assertEqual(would_delete(workspace, DOCUMENTS), tuple("stuvwxyz"))
        self.assertEqual(survivors(workspace, DOCUMENTS), ())
        self.assertEqual(would_delete(workspace, ("a", "h")), ("s", "z"))
        self.assertEqual(survivors(workspace, ("a", "h")), tuple("tuvwxy"))


class RelatedTest(Checks):

    def test_done_and_undone_actions(self):
        for workspace in workspaces():
            heap = workspace.heap()
            pairs = pairs_below(heap)
            for name, _ in heap:
                above = tuple(other for other, _ in heap if other == name or (name, other) in pairs)
                below = tuple(other for other, _ in heap if other == name or (other, name) in pairs)
                self.assertEqual(self.preview(carries, workspace, name), ("returned", above))
                self.assertEqual(self.preview(rests_on, workspace, name), ("returned", below))

    def test_done_actions_carry_undone_ones(self):
        workspace = doc_workspace(*"abc")
        for name, documents in (("z", "a"), ("y", "ab"), ("x", "bc"), ("w", "c"), ("v", "a")):
            workspace.do(name, mark(*documents))
        workspace.undo("b")
        self.assertEqual(workspace.cut(), ("v", "y", "z"))
        self.assertEqual(carries(workspace, "z"), ("z", "y", "v", "x", "w"))
        self.assertEqual(carries(workspace, "y"), ("y", "v", "x", "w"))
        self.assertEqual(rests_on(workspace, "w"), ("z", "y", "x", "w"))
        self.assertEqual(rests_on(workspace, "v"), ("z", "y", "v"))

    def test_against_take_back_and_restore(self):
        for workspace in workspaces():
            for name, _ in workspace.heap():
                copy = replay(workspace.log())
                if name in copy.cut():
                    taken = tuple(other for other in carries(workspace, name) if other in workspace.cut())
                    self.assertEqual(copy.take_back(name), taken[::-1])
                else:
                    back = tuple(other for other in rests_on(workspace, name) if other not in workspace.cut())
                    self.assertEqual(copy.restore(name), back)

    def test_of_anything(self):
        workspace = half_undone(2, 30)
        deleted = [name for name in workspace.state()[2] if name not in dict(workspace.heap())]
        self.assertTrue(deleted)
        for thing in (*no_names(), "never", *deleted):
            for function in (carries, rests_on):
                error, value = self.preview(function, workspace, thing)
                self.assertEqual(error, "NoAction")
                self.assertTrue(value is thing)


class CallsTest(Checks):

    def test_arguments_by_name_in_another_order(self):
        workspace = doc_workspace("a", "b")
        workspace.do("x", mark("a"))
        workspace.do("y", mark("a", "b"))
        workspace.undo("b")
        self.assertEqual(would_undo(document="a", workspace=workspace), ("x",))
        self.assertEqual(would_redo(document="b", workspace=workspace), ("y",))
        self.assertEqual(would_delete(documents=("a",), workspace=workspace), ("y",))
        self.assertEqual(survivors(documents=(), workspace=workspace), ("y",))
        self.assertEqual(carries(name="x", workspace=workspace), ("x", "y"))
        self.assertEqual(rests_on(name="y", workspace=workspace), ("x", "y"))

    def test_kinds_of_values(self):
        for workspace in workspaces():
            for document in workspace.documents():
                for result in (told(would_undo, workspace, document), told(would_redo, workspace, document),
                               would_delete(workspace, (document,)), survivors(workspace, (document,))):
                    self.assertTrue(is_plain(result))
            for name, _ in workspace.heap():
                self.assertTrue(is_plain((carries(workspace, name), rests_on(workspace, name))))


if __name__ == "__main__":
    unittest.main()
