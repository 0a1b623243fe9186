"""Sessions: points [15], [16], [18] and [19] and guarantees (a), (c) and (e), over drawn calls and by hand."""

import unittest

from crossundo.heaps import is_below, list_of
from crossundo.replaying import replay
from crossundo.workspace import Workspace
from tests.samples import BUSY, CHANGES, DOCUMENTS, doc_workspace, drawn_calls, drawn_workspace, half_undone, mark
from tests.samples import told


class ModelTest(unittest.TestCase):
    """Each drawn call returns or raises what the plain model does, and leads to the same workspace."""

    def compare(self, workspace, model):
        self.assertEqual(workspace.documents(), model.documents())
        self.assertEqual(workspace.heap(), model.heap())
        self.assertEqual(workspace.cut(), model.cut())
        for document in DOCUMENTS:
            for method in ("content", "applied", "undone", "is_clean"):
                self.assertEqual(told(getattr(workspace, method), document), model.told(method, document), method)
        for name in (*model.edits, "never"):
            self.assertEqual(told(workspace.edits_of, name), model.told("edits_of", name))

    def compare_history(self, workspace, model):
        self.assertEqual(workspace.state(), model.state())
        self.assertEqual(workspace.log(), model.log())
        for document in DOCUMENTS:
            self.assertEqual(told(workspace.journal, document), model.told("journal", document))

    def run_session(self, seed, count, documents, weights):
        workspace = Workspace()
        seen = {}
        for at, (method, arguments, expected, model) in enumerate(drawn_calls(seed, count, documents, weights)):
            self.assertEqual(told(getattr(workspace, method), *arguments), expected, (seed, at, method, arguments))
            self.compare(workspace, model)
            if at % 10 == 0:
                self.compare_history(workspace, model)
            seen[method, expected[0]] = seen.get((method, expected[0]), 0) + 1
        self.compare_history(workspace, model)
        return seen, len(model.order), len(model.events)

    def test_many_sessions(self):
        seen = {}
        for seed in range(60):
            for key, count in self.run_session(seed, 80, 2 + seed % 5, CHANGES)[0].items():
                seen[key] = seen.get(key, 0) + count
        for key in (("do", "returned"), ("undo", "returned"), ("redo", "returned"), ("take_back", "returned"),
                    ("restore", "returned"), ("save", "returned"), ("close", "returned"), ("forget", "returned"),
                    ("open_document", "returned"), ("open_document", "AlreadyOpen"), ("do", "EditMismatch"),
                    ("do", "DuplicateName"), ("undo", "NothingToUndo"), ("redo", "NothingToRedo"),
                    ("forget", "NothingToForget"), ("take_back", "AlreadyUndone"), ("restore", "AlreadyDone"),
                    ("take_back", "NoAction"), ("restore", "NoAction"), ("undo", "NoDocument")):
            self.assertGreater(seen.get(key, 0), 5, key)

    def test_up_to_the_limits(self):
        largest = []
        for seed in range(5):
            _, actions, events = self.run_session(seed, 260, 8, BUSY)
            largest.append((actions, events))
        self.assertEqual(max(actions for actions, _ in largest), 40)
        self.assertGreater(max(events for _, events in largest), 150)


class OneHeapOneCutTest(unittest.TestCase):
    """Guarantee (a), and the row of point [19] on open documents."""

    def test_done_actions_come_before_undone_ones(self):
        for seed in range(40):
            workspace = Workspace()
            for method, arguments, _, _ in drawn_calls(seed, 60):
                told(getattr(workspace, method), *arguments)
                cut = workspace.cut()
                for document in workspace.documents():
                    names = list_of(workspace.heap(), document)
                    done = [name in cut for name in names]
                    self.assertEqual(done, sorted(done, reverse=True))
                    self.assertEqual(names, workspace.applied(document)[-done.count(True):] * any(done)
                                     + workspace.undone(document))
                for _, touched in workspace.heap():
                    self.assertLessEqual(set(touched), set(workspace.documents()))


class SurvivalTest(unittest.TestCase):
    """Guarantee (c)."""

    def contents_when_first_done(self, workspace):
        """Return, for each action, the contents of its documents right after it was done first."""
        contents = {}
        for number, event in enumerate(workspace.log()):
            if event[0] == "do":
                copy = replay(workspace.log()[:number + 1])
                contents[event[1][0]] = {edit[0]: copy.content(edit[0]) for edit in event[1][1]}
        return contents

    def check_survivors(self, workspace, contents):
        log = workspace.log()
        for name, touched in workspace.heap():
            if name not in workspace.cut():
                copy = replay(log)
                self.assertEqual(copy.restore(name)[-1], name)
                self.assertEqual({document: copy.content(document) for document in touched}, contents[name])

    def test_each_survivor_can_be_restored(self):
        survived = 0
        for seed in range(30):
            workspace = half_undone(seed, 40, documents=8)
            contents = self.contents_when_first_done(workspace)
            for document in workspace.documents():
                copy = replay(workspace.log())
                before = {name for name, _ in copy.heap()} - set(copy.cut())
                below = copy.heap()
                deleted = copy.do("new", mark(document))
                starts = [name for name, touched in below if name in before and document in touched]
                expected = {name for name in before
                            if name in starts or any(is_below(below, start, name) for start in starts)}
                self.assertEqual(set(deleted), expected)
                left = {name for name, _ in copy.heap()} - set(copy.cut())
                self.assertEqual(left, before - expected)
                self.check_survivors(copy, contents)
                survived += len(left)
        self.assertGreater(survived, 100)

    def test_whatever_happens_to_unrelated_actions(self):
        checked = 0
        for seed in range(100, 120):
            workspace = half_undone(seed, 60, documents=6)
            self.check_survivors(workspace, self.contents_when_first_done(workspace))
            checked += len(workspace.heap()) - len(workspace.cut())
        self.assertGreater(checked, 50)


class SaveTest(unittest.TestCase):

    def test_clean_after_opening(self):
        w = doc_workspace("a")
        self.assertIs(w.is_clean("a"), True)
        self.assertEqual(w.state()[0], (("a", "a", (), ()),))

    def test_not_clean_after_an_action_and_clean_after_its_undo(self):
        w = doc_workspace("a", "b")
        w.do("x", mark("a"))
        self.assertIs(w.is_clean("a"), False)
        self.assertIs(w.is_clean("b"), True)
        w.undo("a")
        self.assertIs(w.is_clean("a"), True)
        w.redo("a")
        self.assertIsNone(w.save("a"))
        self.assertIs(w.is_clean("a"), True)
        w.undo("a")
        self.assertIs(w.is_clean("a"), False)
        self.assertEqual(w.state()[0][0], ("a", "a", (), ("x",)))

    def test_contents_are_not_compared(self):
        w = doc_workspace("a")
        w.do("x", (("a", 0, "a", "a"),))
        self.assertEqual((w.content("a"), w.is_clean("a")), ("a", False))
        w.do("y", (("a", 0, "", "!"),))
        w.do("z", (("a", 0, "!", ""),))
        w.save("a")
        w.take_back("y")
        self.assertEqual((w.content("a"), w.is_clean("a")), ("a", False))

    def test_behind_final_actions(self):
        w = doc_workspace("a")
        w.do("x", mark("a"))
        w.save("a")
        self.assertEqual(w.forget("a"), ("x",))
        self.assertIs(w.is_clean("a"), True)
        w.do("y", mark("a"))
        self.assertIs(w.is_clean("a"), False)
        w.save("a")
        w.forget("a")
        self.assertIs(w.is_clean("a"), True)
        self.assertEqual(w.state()[0], (("a", "!!a", ("x", "y"), ("x", "y")),))

    def test_never_clean_again_behind_a_final_action_that_was_not_saved(self):
        w = doc_workspace("a")
        w.do("x", mark("a"))
        w.forget("a")
        w.do("y", mark("a"))
        w.undo("a")
        self.assertIs(w.is_clean("a"), False)

    def test_a_deleted_action_done_again_under_a_new_name(self):
        w = doc_workspace("a")
        w.do("x", mark("a"))
        w.save("a")
        w.undo("a")
        self.assertEqual(w.do("y", mark("a")), ("x",))
        self.assertEqual((w.content("a"), w.applied("a"), w.is_clean("a")), ("!a", ("y",), False))
        w.undo("a")
        self.assertIs(w.is_clean("a"), False)
        w.save("a")
        self.assertIs(w.is_clean("a"), True)

    def test_closed_and_opened_again(self):
        w = doc_workspace("a", "b")
        w.do("x", mark("a", "b"))
        w.save("b")
        w.close("a")
        w.open_document("a", "other")
        self.assertEqual((w.applied("a"), w.undone("a"), w.is_clean("a"), w.content("a")), ((), (), True, "other"))
        self.assertEqual((w.applied("b"), w.is_clean("b")), (("x",), True))
        w.do("y", mark("a"))
        self.assertEqual((w.applied("a"), w.is_clean("a")), (("y",), False))

    def test_saving_one_document_leaves_the_others(self):
        w = doc_workspace("a", "b")
        w.do("x", mark("a", "b"))
        w.save("a")
        self.assertEqual((w.is_clean("a"), w.is_clean("b")), (True, False))


class CloseTest(unittest.TestCase):

    def test_nothing_to_become_final(self):
        w = doc_workspace("a", "b")
        w.do("x", mark("b"))
        self.assertEqual(w.close("a"), ((), ()))
        self.assertEqual((w.documents(), w.heap(), w.content("b")), (("b",), (("x", ("b",)),), "!b"))

    def test_final_and_deleted_in_the_normal_order(self):
        w = doc_workspace(*"abcd")
        for name, documents in (("m", "ab"), ("c", "d"), ("b", "b"), ("l", "bc"), ("k", "cd"), ("z", "c")):
            w.do(name, mark(*documents))
        self.assertEqual(w.take_back("l"), ("z", "k", "l"))
        # b lies above m, and c is unrelated to both.
        self.assertEqual(w.close("b"), (("m", "b"), ("l", "k", "z")))
        self.assertEqual((w.heap(), w.cut()), ((("c", ("d",)),), ("c",)))
        self.assertEqual([w.content(document) for document in "acd"], ["!a", "c", "!d"])
        self.assertEqual(w.applied("a"), ("m",))

    def test_contents_stay(self):
        for seed in range(30):
            workspace = drawn_workspace(seed, 40, documents=5)
            for document in workspace.documents():
                copy = replay(workspace.log())
                others = [other for other in copy.documents() if other != document]
                before = [(copy.content(other), copy.applied(other), copy.is_clean(other)) for other in others]
                copy.close(document)
                self.assertEqual([(copy.content(other), copy.applied(other), copy.is_clean(other))
                                  for other in others], before)

    def test_exactly_what_could_not_be_done_without_the_document(self):
        """Guarantee (e): the footprint of a take_back or restore tells which documents it needs."""
        final_count = deleted_count = 0
        for seed in range(15):
            workspace = half_undone(seed, 40)
            for document in workspace.documents():
                needs = {}
                for name, _ in workspace.heap():
                    copy = replay(workspace.log())
                    if name in copy.cut():
                        copy.take_back(name)
                    else:
                        copy.restore(name)
                    needs[name] = document in copy.log()[-1][2]
                copy = replay(workspace.log())
                order = [name for name, _ in copy.heap()]
                cut = copy.cut()
                final, deleted = copy.close(document)
                self.assertEqual(final, tuple(name for name in order if name in cut and needs[name]))
                self.assertEqual(deleted, tuple(name for name in order if name not in cut and needs[name]))
                self.assertEqual({name for name, _ in copy.heap()}, set(order) - set(final + deleted))
                final_count += len(final)
                deleted_count += len(deleted)
        self.assertGreater(final_count, 50)
        self.assertGreater(deleted_count, 50)

    def test_survivors_of_a_close_can_be_restored(self):
        w = doc_workspace("a", "b", "c")
        w.do("x", mark("a"))
        w.do("y", mark("a", "b"))
        w.do("z", mark("c"))
        w.undo("c")
        w.undo("a")
        w.undo("a")
        self.assertEqual(w.close("b"), ((), ("y",)))
        self.assertEqual(w.redo("a"), ("x",))
        self.assertEqual(w.redo("c"), ("z",))
        self.assertEqual((w.content("a"), w.content("c")), ("!a", "!c"))

    def test_all_closed(self):
        for seed in range(10):
            workspace = drawn_workspace(seed, 60)
            used = workspace.state()[2]
            for document in workspace.documents():
                workspace.close(document)
            self.assertEqual(workspace.state(), ((), (), used))
            self.assertEqual((workspace.heap(), workspace.cut()), ((), ()))


class ForgetTest(unittest.TestCase):

    def test_the_first_done_action_and_all_below(self):
        w = doc_workspace(*"abc")
        for name, documents in (("z", "a"), ("y", "ab"), ("x", "bc"), ("w", "c"), ("v", "c")):
            w.do(name, mark(*documents))
        self.assertEqual(w.forget("c"), ("z", "y", "x"))
        self.assertEqual((w.heap(), w.cut()), ((("w", ("c",)), ("v", ("c",))), ("v", "w")))
        self.assertEqual((w.applied("a"), w.applied("b"), w.applied("c")), (("z", "y"), ("y", "x"), ("x", "w", "v")))
        self.assertEqual(w.content("c"), "!!!c")
        self.assertEqual(told(w.forget, "a"), ("NothingToForget", "a"))
        self.assertEqual(told(w.undo, "a"), ("NothingToUndo", "a"))
        self.assertEqual(w.undo("c"), ("v",))
        self.assertEqual(w.forget("c"), ("w",))
        self.assertEqual(told(w.forget, "c"), ("NothingToForget", "c"))
        self.assertEqual((w.applied("c"), w.undone("c")), (("x", "w"), ("v",)))

    def test_undone_actions_stay(self):
        w = doc_workspace("a")
        w.do("x", mark("a"))
        w.do("y", mark("a"))
        w.undo("a")
        self.assertEqual(w.forget("a"), ("x",))
        self.assertEqual((w.heap(), w.cut()), ((("y", ("a",)),), ()))
        self.assertEqual(w.redo("a"), ("y",))
        self.assertEqual((w.content("a"), w.applied("a")), ("!!a", ("x", "y")))

    def test_names_in_the_normal_order(self):
        w = doc_workspace(*"abc")
        w.do("q", mark("a"))
        w.do("p", mark("b"))
        w.do("o", mark("a", "b", "c"))
        self.assertEqual(w.forget("c"), ("p", "q", "o"))
        self.assertEqual((w.applied("a"), w.applied("b")), (("q", "o"), ("p", "o")))

    def test_contents_stay(self):
        for seed in range(30):
            workspace = drawn_workspace(seed, 40, documents=5)
            for document in workspace.documents():
                copy = replay(workspace.log())
                before = [(other, copy.content(other), copy.applied(other), copy.undone(other), copy.is_clean(other))
                          for other in copy.documents()]
                told(copy.forget, document)
                self.assertEqual([(other, copy.content(other), copy.applied(other), copy.undone(other),
                                   copy.is_clean(other)) for other in copy.documents()], before)


if __name__ == "__main__":
    unittest.main()
