"""The whole program: the interface, point [2], the limits, and guarantee (h) of point [4]."""

import importlib
import inspect
import itertools
import random
import unittest

from crossundo import cuts, edits, errors, heaps, logs, losses, merging, previews, recovery, replaying, routes, texts
from crossundo.errors import UndoError
from crossundo.shell import Shell
from crossundo.workspace import Workspace
from tests.samples import ACTIONS, CHAIN, CIRCLE, DOCUMENTS, beginnings, cut_off, doc_workspace, drawn_calls
from tests.samples import drawn_workspace, everything, half_undone, is_plain, kept_journals, mark, told

# The parameters in the order in which the document gives them.
FUNCTIONS = {
    edits: {"is_name": "thing", "is_content": "thing", "is_edit": "thing", "is_edits": "thing", "fits": "content edit",
            "apply": "content edit", "inverse": "edit"},
    heaps: {"is_heap": "thing", "up": "heap names", "down": "heap names", "is_below": "heap name other",
            "list_of": "heap document", "normal": "heap", "same_heap": "heap other"},
    cuts: {"is_cut": "heap thing", "undo_set": "heap cut document", "redo_set": "heap cut document", "cuts_of": "heap",
           "presses_to": "heap cut goal", "independent": "heap cut press other"},
    previews: {"would_undo": "workspace document", "would_redo": "workspace document",
               "would_delete": "workspace documents", "survivors": "workspace documents", "carries": "workspace name",
               "rests_on": "workspace name"},
    replaying: {"replay": "log"},
    logs: {"alike": "log other", "exchanges": "log other", "difference": "log other"},
    recovery: {"is_journals": "thing", "journals_of": "workspace", "kept": "journals", "recover": "journals"},
    losses: {"loss": "journals document number", "shows_loss": "journals document number thing"},
    texts: {"show_log": "log", "read_log": "text", "is_event": "thing"},
    routes: {"shortest": "heap cut goal"},
    merging: {"past": "log other", "merge": "log other"},
}
METHODS = {
    Workspace: {"open_document": "document content", "documents": "", "content": "document", "do": "name edits",
                "undo": "document", "redo": "document", "applied": "document", "undone": "document", "take_back": "name",
                "restore": "name", "heap": "", "cut": "", "edits_of": "name", "save": "document", "is_clean": "document",
                "close": "document", "forget": "document", "log": "", "journal": "document", "state": ""},
    Shell: {"run": "line"},
}
OPENED = (("open", ("a", ""), ("a",)), ("open", ("b", ""), ("b",)))


def raised():
    """Return each of the nineteen errors with calls that raise it, and the value of its attribute."""
    w = doc_workspace("a", "b")
    w.do("x", mark("a"))
    w.do("y", mark("a"))
    w.undo("a")
    shell = Shell()
    shell.run("open a one")
    longer = (("a", 0, "", "z" * 400),)
    return (
        ("BadName", "A", (w.open_document, "A"), (w.do, "A", mark("a"))),
        ("BadContent", "%", (w.open_document, "c", "%")),
        ("BadContent", "z" * 400 + "!a", (w.do, "z", longer)),
        ("BadContent", "z" * 400 + "one", (shell.run, f"do z\nedit a 0 0 {'z' * 400}")),
        ("BadEdits", (), (w.do, "z", ())),
        ("NoDocument", "h", (w.undo, "h"), (w.content, "h"), (w.journal, "h"), (shell.run, "show h"), (shell.run, "list h"),
         (previews.would_undo, w, "h"), (w.do, "z", mark("h"))),
        ("AlreadyOpen", "a", (w.open_document, "a"), (shell.run, "open a one")),
        ("DuplicateName", "x", (w.do, "x", mark("a")),
         (merging.merge, OPENED + (("do", ("x", mark("a")), ("a",)),), OPENED + (("do", ("x", mark("b")), ("b",)),))),
        ("EditMismatch", "a", (edits.apply, "one", ("a", 0, "two", "")), (w.do, "z", (("a", 0, "?", ""),)),
         (shell.run, "do z\nedit a 0 1 ?")),
        ("NothingToUndo", "b", (w.undo, "b"), (previews.would_undo, w, "b"), (cuts.undo_set, CHAIN, (), "b")),
        ("NothingToUndo", "a", (shell.run, "undo a")),
        ("NothingToRedo", "b", (w.redo, "b"), (previews.would_redo, w, "b"), (cuts.redo_set, (), (), "b")),
        ("NothingToForget", "b", (w.forget, "b")),
        ("NoAction", "never", (w.take_back, "never"), (w.restore, "never"), (w.edits_of, "never"),
         (previews.carries, w, "never"), (previews.rests_on, w, "never"), (shell.run, "back never")),
        ("AlreadyUndone", "y", (w.take_back, "y")),
        ("AlreadyDone", "x", (w.restore, "x")),
        ("TooMany", 2000, (cuts.cuts_of, tuple((name, (name,)) for name in ACTIONS[:40])),
         (routes.shortest, tuple((name, (name,)) for name in ACTIONS[:40]), (), ())),
        ("BadLog", 1, (replaying.replay, OPENED[:1] * 2)),
        ("BadJournals", None, (recovery.recover, CIRCLE), (recovery.recover, None)),
        ("BadText", 2, (texts.read_log, "undo a\nat a\n")),
        ("BadCommand", "undo", (shell.run, "undo")),
        ("Conflict", "a", (merging.merge, OPENED + (("save", "a", ("a",)),), OPENED + (("close", "a", ("a",)),))),
    )


class InterfaceTest(unittest.TestCase):

    def parameters(self, function):
        return [name for name in inspect.signature(function).parameters if name != "self"]

    def test_functions_and_their_parameters(self):
        for module, functions in FUNCTIONS.items():
            for name, parameters in functions.items():
                function = getattr(module, name)
                self.assertEqual(function.__module__, module.__name__)
                self.assertEqual(self.parameters(function), parameters.split(), name)

    def test_methods_stand_in_the_classes_themselves(self):
        for cls, methods in METHODS.items():
            for name, parameters in methods.items():
                self.assertEqual(self.parameters(vars(cls)[name]), parameters.split(), name)

    def test_content_may_be_omitted(self):
        self.assertEqual(inspect.signature(Workspace.open_document).parameters["content"].default, "")

    def test_the_modules_hold_nothing_at_import(self):
        for name in ("errors", "edits", "heaps", "cuts", "workspace", "previews", "replaying", "logs", "recovery", "losses",
                     "texts", "shell", "routes", "merging"):
            self.assertEqual(importlib.import_module(f"crossundo.{name}").__name__, f"crossundo.{name}")


class ErrorsTest(unittest.TestCase):

    def test_each_is_raised(self):
        names = set()
        for name, value, *calls in raised():
            names.add(name)
            for function, *arguments in calls:
                with self.assertRaises(UndoError) as caught:
                    function(*arguments)
                self.check(caught.exception, name, value)
        self.assertEqual(names, {cls.__name__ for cls in UndoError.__subclasses__()})
        self.assertEqual(len(names), 19)

    def check(self, error, name, value):
        own = getattr(errors, name)
        self.assertIs(type(error), own)
        self.assertIsInstance(error, UndoError)
        self.assertIsInstance(error, ValueError)
        for other in UndoError.__subclasses__():
            self.assertIs(isinstance(error, other), other is own)
        self.assertEqual(list(vars(error).values()), [] if name == "BadJournals" else [value])

    def test_a_call_that_raises_changes_nothing(self):
        for name, _, *calls in raised():
            for function, *arguments in calls:
                owner = getattr(function, "__self__", None)
                workspace = owner.workspace if isinstance(owner, Shell) else owner
                if workspace is not None:
                    before = everything(workspace)
                    self.assertEqual(told(function, *arguments)[0], name)
                    self.assertEqual(everything(workspace), before)


class CallsTest(unittest.TestCase):
    """Each function and method with its arguments by their names, in another order."""

    def both_ways(self, function, **named):
        """Call by position and by names, the last one first; return the result."""
        expected = told(function, *named.values())
        self.assertEqual(told(function, **dict(reversed(list(named.items())))), expected)
        self.assertEqual(expected[0], "returned")
        return expected[1]

    def values(self):
        """Return a value for each parameter; workspaces are made anew."""
        w = doc_workspace("a", "b", "c")
        w.do("x", mark("a", "b"))
        w.do("y", mark("b", "c"))
        w.undo("c")
        log = w.log()
        return {
            "content": "hello", "edit": ("a", 1, "el", "ipp"), "thing": (("b", 1),), "heap": CHAIN, "names": ("y",), "name": "x",
            "document": "b", "cut": ("x",), "goal": ("x", "y"), "press": ("undo", "a"), "workspace": w, "documents": ("b",),
            "log": log, "journals": recovery.journals_of(w), "text": texts.show_log(log), "number": 1,
        }

    def test_functions(self):
        called = 0
        for module, functions in FUNCTIONS.items():
            for name, parameters in functions.items():
                values = self.values()
                others = {"is_below": "z", "same_heap": CHAIN[::-1], "independent": ("redo", "c")}
                values["other"] = others.get(name, values["log"][:3])
                arguments = {parameter: values[parameter] for parameter in parameters.split()}
                if name in ("replay", "recover"):
                    found = [getattr(module, name)(**arguments).state(), getattr(module, name)(*arguments.values()).state()]
                    self.assertEqual(found[0], found[1])
                else:
                    self.both_ways(getattr(module, name), **arguments)
                called += 1
        self.assertEqual(called, sum(len(functions) for functions in FUNCTIONS.values()))

    def test_methods(self):
        for name, parameters in METHODS[Workspace].items():
            values = {**self.values(), "edits": mark("a", "b"), "content": "new"}
            if name == "open_document":
                values["document"] = "d"
            if name in ("do", "restore"):
                values["name"] = {"do": "z", "restore": "y"}[name]
            arguments = {parameter: values[parameter] for parameter in parameters.split()}
            one, other = self.values()["workspace"], self.values()["workspace"]
            by_names = dict(reversed(list(arguments.items())))
            self.assertEqual(told(getattr(one, name), *arguments.values()), told(getattr(other, name), **by_names))
            self.assertEqual(told(getattr(one, name), *arguments.values()), told(getattr(other, name), **by_names))
            self.assertEqual(everything(one), everything(other))
            if name in ("open_document", "do", "undo", "redo", "take_back", "restore", "save", "close", "forget"):
                self.assertGreater(len(one.log()), len(self.values()["log"]), name)
        self.assertEqual(Shell().run(line="open a one"), "ok")

    def test_errors(self):
        for name, value, *_ in raised():
            if name != "BadJournals":
                made = getattr(errors, name)
                attribute = list(vars(made(value)))[0]
                self.assertEqual(getattr(made(**{attribute: value}), attribute), value)


class WrittenLogsTest(unittest.TestCase):
    """Guarantee (h)."""

    def test_written_read_and_replayed(self):
        for seed in range(20):
            w = drawn_workspace(seed, 50, 3 + seed % 5)
            log = texts.read_log(texts.show_log(w.log()))
            again = replaying.replay(log)
            self.assertEqual(everything(again), everything(w))
            self.assertEqual(recovery.journals_of(again), recovery.journals_of(w))
            for method, arguments, _, _ in drawn_calls(seed + 300, 20):
                self.assertEqual(told(getattr(again, method), *arguments), told(getattr(w, method), *arguments))
            self.assertEqual(everything(again), everything(w))

    def test_lines_of_the_same_events(self):
        for seed in range(20):
            w = drawn_workspace(seed, 50, 3 + seed % 5)
            shell = Shell()
            rows = [row for row in texts.show_log(w.log()).split("\n") if not row.startswith("at ") or row == ""]
            lines = "\n".join(rows).replace("\nedit ", "\tedit ").split("\n")
            for line in lines if w.log() else []:
                shell.run(line.replace("\tedit ", "\nedit ").replace("take_back ", "back ", 1 if line.startswith("take_") else 0))
            self.assertEqual(shell.run("log"), texts.show_log(w.log()))
            for document in DOCUMENTS:
                self.assertEqual(told(shell.run, f"show {document}"), told(w.content, document))


class LimitsTest(unittest.TestCase):
    """Eight documents with names of one to eight letters, forty actions, two hundred events."""

    def setUp(self):
        self.names = ["q" * length for length in range(1, 9)]
        self.w = Workspace()
        for name in self.names:
            self.w.open_document(name, name)
        for at, name in enumerate(ACTIONS[:40]):
            touched = sorted({self.names[at % 8], self.names[at * 3 % 8], self.names[(at + 1) % 8]})
            self.w.do(name, mark(*touched))
        while len(self.w.log()) < 200:
            self.w.save(self.names[2])

    def test_presses(self):
        w = self.w
        self.assertEqual(len(w.heap()), 40)
        self.assertEqual(len(w.log()), 200)
        before = w.state()[:2]
        taken = w.take_back(w.heap()[0][0])
        self.assertEqual(previews.would_redo(w, self.names[0])[0], taken[-1])
        while w.cut() != tuple(sorted(ACTIONS[:40])):
            for document in self.names:
                told(w.redo, document)
        self.assertEqual(w.state()[1], before[1])
        self.assertEqual([row[:3] for row in w.state()[0]], [row[:3] for row in before[0]])
        for document in self.names:
            self.assertEqual(w.undo(document)[-1], w.undone(document)[0])
            w.redo(document)
        self.assertLessEqual(len(w.log()), 260)

    def test_names_in_lines_and_texts(self):
        text = texts.show_log(self.w.log())
        self.assertEqual(texts.read_log(text), self.w.log())
        self.assertEqual(replaying.replay(self.w.log()).state(), self.w.state())
        shell = Shell()
        shell.run("open qqqqqqqq x")
        self.assertEqual(shell.run("log"), "open qqqqqqqq x\nat qqqqqqqq")

    def test_journals_and_recovery(self):
        journals = recovery.journals_of(self.w)
        self.assertEqual([document for document, _ in journals], sorted(self.names))
        self.assertIs(recovery.is_journals(journals), True)
        self.assertEqual(recovery.recover(journals).state(), self.w.state())
        for seed in range(6):
            cut = cut_off(random.Random(seed), journals)
            self.assertEqual(recovery.journals_of(recovery.recover(cut)), kept_journals(cut))
            for document, rows in cut[::3]:
                for number in range(0, len(rows), 17):
                    chain = losses.loss(cut, document, number)
                    held = number < dict(recovery.kept(cut))[document]
                    self.assertIs(chain is None, held)
                    if not held:
                        self.assertIs(losses.shows_loss(cut, document, number, chain), True)
        whole = beginnings(journals, [len(rows) for _, rows in journals])
        self.assertEqual(recovery.kept(whole), tuple((document, len(rows)) for document, rows in journals))

    def test_logs(self):
        log = self.w.log()
        self.assertIs(logs.alike(log, log), True)
        self.assertEqual(logs.exchanges(log, log), ())
        self.assertEqual(logs.difference(log, log[:-1]), (self.names[2], len(self.w.journal(self.names[2])) - 1))
        self.assertEqual(merging.merge(log[:100], log), log)
        self.assertEqual(merging.merge(log, log[:100]), log)

    def test_closing_everything(self):
        final = []
        for document in self.names:
            closed, deleted = self.w.close(document)
            self.assertEqual(deleted, ())
            final.extend(closed)
        self.assertEqual(sorted(final), sorted(ACTIONS[:40]))


class ValuesTest(unittest.TestCase):

    def test_only_plain_values_are_returned(self):
        for seed in range(8):
            w = half_undone(seed, 30)
            journals = cut_off(random.Random(seed), recovery.journals_of(w))
            found = [recovery.journals_of(w), recovery.kept(journals), logs.exchanges(w.log(), w.log()[::-1]),
                     logs.exchanges(w.log(), w.log()), logs.difference(w.log(), w.log()[1:]), texts.show_log(w.log()),
                     texts.read_log(texts.show_log(w.log())), merging.past(w.log(), w.log()[1:]), merging.merge(w.log(), w.log())]
            for document, rows in journals:
                found.extend(losses.loss(journals, document, number) for number in range(len(rows)))
            self.assertTrue(is_plain(tuple(found)))

    def test_returned_values_may_be_passed_in_again(self):
        for seed in range(8):
            w = half_undone(seed, 20, documents=3)
            heap = w.heap()[:6]
            for cut, goal in itertools.islice(itertools.product(cuts.cuts_of(heap), repeat=2), 40):
                for press in routes.shortest(heap, cut, goal):
                    cut = self.after(heap, cut, press)
                self.assertEqual(cut, goal)

    def after(self, heap, cut, press):
        if press[0] == "undo":
            return tuple(name for name in cut if name not in cuts.undo_set(heap, cut, press[1]))
        return tuple(sorted(cut + cuts.redo_set(heap, cut, press[1])))


if __name__ == "__main__":
    unittest.main()
