"""Events, journals, states and replayed logs: points [20], [21] and [22], and guarantee (d) of point [4]."""

import itertools
import random
import unittest

from crossundo.errors import BadLog
from crossundo.replaying import replay
from crossundo.workspace import Workspace
from tests.samples import BUSY, DOCUMENTS, doc_workspace, drawn_calls, drawn_workspace, everything, half_undone, is_plain
from tests.samples import mark, number_of_first_bad, told


class LogTest(unittest.TestCase):

    def test_every_kind_of_event(self):
        w = Workspace()
        w.open_document("c", "six")
        w.open_document("a")
        w.open_document("b", content="two")
        edits = (("a", 0, "", "x"), ("b", 0, "t", ""))
        w.do("x", edits)
        w.do("y", mark("b", "c"))
        w.undo("a")
        w.redo("c")
        w.take_back("y")
        w.restore("y")
        w.save("b")
        w.forget("a")
        w.undo("c")
        w.do("z", mark("c"))
        w.close("b")
        w.close("c")
        self.assertEqual(w.log(), (
            ("open", ("c", "six"), ("c",)),
            ("open", ("a", ""), ("a",)),
            ("open", ("b", "two"), ("b",)),
            ("do", ("x", edits), ("a", "b")),
            ("do", ("y", mark("b", "c")), ("b", "c")),
            ("undo", "a", ("a", "b", "c")),
            ("redo", "c", ("a", "b", "c")),
            ("take_back", "y", ("b", "c")),
            ("restore", "y", ("b", "c")),
            ("save", "b", ("b",)),
            ("forget", "a", ("a", "b")),
            ("undo", "c", ("b", "c")),
            ("do", ("z", mark("c")), ("b", "c")),
            ("close", "b", ("b",)),
            ("close", "c", ("c",)),
        ))

    def test_footprints_of_what_is_deleted_and_final(self):
        w = doc_workspace(*"abcd")
        w.do("x", mark("a", "b"))
        w.do("y", mark("b", "c"))
        w.undo("a")
        w.do("z", mark("a"))
        self.assertEqual(w.log()[-1], ("do", ("z", mark("a")), ("a", "b", "c")))
        w.do("v", mark("a", "d"))
        w.do("u", mark("b", "d"))
        w.undo("b")
        w.close("d")
        self.assertEqual(w.log()[-1], ("close", "d", ("a", "b", "d")))

    def test_one_event_for_each_call_that_does_not_raise(self):
        for seed in range(20):
            w = Workspace()
            count = 0
            for method, arguments, _, _ in drawn_calls(seed, 60):
                before = w.log()
                count += told(getattr(w, method), *arguments)[0] == "returned"
                self.assertEqual(len(w.log()), count)
                self.assertEqual(w.log()[:len(before)], before)
                for document in w.documents():
                    w.content(document), w.applied(document), w.journal(document), w.is_clean(document)
                self.assertEqual(len(w.log()), count)

    def test_an_action_adds_its_own_documents_only_once(self):
        w = doc_workspace("a", "b")
        w.do("x", mark("a", "b"))
        w.undo("b")
        w.do("y", mark("a", "b"))
        self.assertEqual(w.log()[-1][2], ("a", "b"))


class JournalTest(unittest.TestCase):

    def test_rows_and_places(self):
        w = doc_workspace("a", "b")
        w.do("x", mark("a"))
        w.do("y", mark("a", "b"))
        w.save("b")
        w.undo("a")
        x, y = ("do", ("x", mark("a")), ("a",)), ("do", ("y", mark("a", "b")), ("a", "b"))
        undo = ("undo", "a", ("a", "b"))
        self.assertEqual(w.journal("a"), (
            (("open", ("a", "a"), ("a",)), (("a", 0),)), (x, (("a", 1),)), (y, (("a", 2), ("b", 1))),
            (undo, (("a", 3), ("b", 3)))))
        self.assertEqual(w.journal("b"), (
            (("open", ("b", "b"), ("b",)), (("b", 0),)), (y, (("a", 2), ("b", 1))), (("save", "b", ("b",)), (("b", 2),)),
            (undo, (("a", 3), ("b", 3)))))

    def test_a_closed_document_keeps_its_journal_and_goes_on_with_it(self):
        w = doc_workspace("a", "b")
        w.do("x", mark("a", "b"))
        w.close("a")
        closed = w.journal("a")
        self.assertEqual(closed[-1], (("close", "a", ("a", "b")), (("a", 2), ("b", 2))))
        w.do("y", mark("b"))
        w.undo("b")
        self.assertEqual(w.journal("a"), closed)
        w.open_document("a", "new")
        self.assertEqual(w.journal("a"), closed + ((("open", ("a", "new"), ("a",)), (("a", 3),)),))
        w.do("z", mark("a", "b"))
        self.assertEqual(w.journal("a")[-1][1], (("a", 4), ("b", 5)))
        self.assertEqual(w.journal("b")[-1], w.journal("a")[-1])

    def test_each_place_holds_the_row(self):
        for seed in range(20):
            w = drawn_workspace(seed, 80, documents=5)
            opened = sorted({event[1][0] for event in w.log() if event[0] == "open"})
            journals = {document: w.journal(document) for document in opened}
            for document, rows in journals.items():
                self.assertEqual([event for event, _ in rows], [e for e in w.log() if document in e[2]])
                for number, (event, places) in enumerate(rows):
                    self.assertIn((document, number), places)
                    self.assertEqual(tuple(place[0] for place in places), event[2])
                    for other, at in places:
                        self.assertEqual(journals[other][at], (event, places))

    def test_never_opened(self):
        w = drawn_workspace(1, 40)
        self.assertEqual(told(w.journal, "zz"), ("NoDocument", "zz"))
        self.assertEqual(told(Workspace().journal, "a"), ("NoDocument", "a"))
        w = doc_workspace("a")
        self.assertEqual(told(w.open_document, "b", "%"), ("BadContent", "%"))
        self.assertEqual(told(w.journal, "b"), ("NoDocument", "b"))

    def test_what_was_returned_does_not_change_later(self):
        w = Workspace()
        kept = []
        for method, arguments, _, _ in drawn_calls(3, 60):
            told(getattr(w, method), *arguments)
            now = everything(w)
            kept.append((now, repr(now)))
        for value, shown in kept:
            self.assertEqual(repr(value), shown)


class StateTest(unittest.TestCase):

    def test_by_hand(self):
        w = doc_workspace("b", "a")
        w.do("z", mark("b"))
        w.do("y", mark("a"))
        w.save("a")
        w.do("x", mark("a", "b"))
        w.undo("a")
        w.do("w", mark("b"))
        w.undo("b")
        self.assertEqual(w.state(), (
            (("a", "!a", ("y",), ("y",)), ("b", "!b", ("z",), ())),
            (("y", mark("a"), True), ("z", mark("b"), True), ("w", mark("b"), False)),
            ("w", "x", "y", "z")))
        w.close("b")
        self.assertEqual(w.state(), ((("a", "!a", ("y",), ("y",)),), (("y", mark("a"), True),), ("w", "x", "y", "z")))

    def test_empty(self):
        self.assertEqual(Workspace().state(), ((), (), ()))
        self.assertEqual(replay(()).state(), ((), (), ()))

    def test_the_parts_agree_with_the_methods(self):
        for seed in range(30):
            w = drawn_workspace(seed, 60, documents=5)
            documents, actions, used = w.state()
            self.assertEqual(tuple(row[0] for row in documents), w.documents())
            for document, content, applied, saved in documents:
                self.assertEqual((content, applied), (w.content(document), w.applied(document)))
                self.assertIs(applied == saved, w.is_clean(document))
            self.assertEqual(tuple(name for name, _, _ in actions), tuple(name for name, _ in w.heap()))
            self.assertEqual(tuple(sorted(name for name, _, done in actions if done)), w.cut())
            for name, edits, done in actions:
                self.assertEqual(edits, w.edits_of(name))
                self.assertIs(type(done), bool)
            self.assertEqual(used, tuple(sorted(event[1][0] for event in w.log() if event[0] == "do")))
            self.assertTrue(is_plain(w.state()))


class ReplayTest(unittest.TestCase):

    def test_every_beginning_of_a_log(self):
        for seed in range(12):
            w = Workspace()
            for method, arguments, _, _ in drawn_calls(seed, 50, 5):
                told(getattr(w, method), *arguments)
                self.assertEqual(everything(replay(w.log())), everything(w))

    def test_a_log_up_to_the_limits(self):
        for seed in range(3):
            w = drawn_workspace(seed, 250, 8, BUSY)
            presses = itertools.cycle(itertools.product((w.undo, w.redo, w.redo), w.documents()))
            while len(w.log()) < 210:
                told(*next(presses))
            log = w.log()[:210]
            self.assertEqual(replay(log).log(), log)
            self.assertEqual(everything(replay(w.log())), everything(w))

    def test_a_replayed_workspace_goes_on_like_the_first(self):
        for seed in range(20):
            w = drawn_workspace(seed, 40)
            copy = replay(w.log())
            for method, arguments, _, _ in drawn_calls(seed + 1000, 20):
                self.assertEqual(told(getattr(w, method), *arguments), told(getattr(copy, method), *arguments))
            self.assertEqual(everything(w), everything(copy))

    def test_a_replayed_workspace_is_a_new_one(self):
        w = doc_workspace("a")
        copy = replay(w.log())
        copy.do("x", mark("a"))
        self.assertEqual((w.content("a"), copy.content("a")), ("a", "!a"))

    def check(self, log):
        """Compare with the plain model; return whether the log can be replayed."""
        shown = repr(log)
        number = number_of_first_bad(log)
        if number is None:
            self.assertEqual(replay(log).log(), log)
        else:
            with self.assertRaises(BadLog) as caught:
                replay(log)
            self.assertEqual(vars(caught.exception), {"number": number})
        self.assertEqual(repr(log), shown)
        return number is None

    def logs(self):
        yield from (half_undone(seed, 30).log() for seed in range(4))
        yield from (drawn_workspace(seed, 40).log() for seed in range(8))

    def test_an_event_left_out(self):
        found = [self.check(log[:at] + log[at + 1:]) for log in self.logs() for at in range(len(log))]
        self.assertIn(True, found)
        self.assertIn(False, found)

    def test_an_event_twice(self):
        found = [self.check(log[:at + 1] + log[at:]) for log in self.logs() for at in range(len(log))]
        self.assertIn(True, found)
        self.assertIn(False, found)

    def test_two_events_exchanged(self):
        found = []
        for log in self.logs():
            for at in range(len(log) - 1):
                found.append(self.check(log[:at] + (log[at + 1], log[at]) + log[at + 2:]))
        self.assertIn(True, found)
        self.assertIn(False, found)

    def test_another_footprint(self):
        for log in self.logs():
            for at, (kind, argument, footprint) in enumerate(log):
                others = {footprint[1:], footprint[:-1], ("other",), tuple(sorted({*footprint, "a"})), DOCUMENTS[:4],
                          tuple(sorted({*footprint, "other"}))} - {(), footprint}
                for other in sorted(others):
                    changed = log[:at] + ((kind, argument, other),) + log[at + 1:]
                    self.assertEqual(told(replay, changed), ("BadLog", at))

    def test_another_name_or_document(self):
        found = []
        for log in self.logs():
            names = [event[1][0] for event in log if event[0] == "do"][::4] + ["never"]
            for at, (kind, argument, footprint) in enumerate(log):
                if kind in ("open", "do"):
                    choices = [(other, argument[1]) for other in (names if kind == "do" else DOCUMENTS[:5:2])]
                else:
                    choices = names if kind in ("take_back", "restore") else DOCUMENTS[:5:2]
                for other in choices:
                    found.append(self.check(log[:at] + ((kind, other, footprint),) + log[at + 1:]))
        self.assertIn(True, found)
        self.assertIn(False, found)

    def test_another_edit(self):
        found = []
        for log in self.logs():
            for at, (kind, argument, footprint) in enumerate(log):
                if kind == "do":
                    name, (first, *rest) = argument
                    for changed in ((first[0], first[1] + 1, *first[2:]), (*first[:2], first[2] + "q", first[3]),
                                    (*first[:3], "other"), ("a", *first[1:]), (*first[:3], "x" * 400)):
                        edits = tuple(sorted([changed, *rest]))
                        if len({edit[0] for edit in edits}) == len(edits):
                            found.append(self.check(log[:at] + (("do", (name, edits), footprint),) + log[at + 1:]))
        self.assertIn(True, found)
        self.assertIn(False, found)

    def test_another_kind(self):
        for log in self.logs():
            for at, (kind, argument, footprint) in enumerate(log):
                for other in ("undo", "redo", "save", "close", "forget", "take_back", "restore"):
                    if kind not in ("open", "do", other):
                        self.check(log[:at] + ((other, argument, footprint),) + log[at + 1:])

    def test_the_first_event(self):
        for event in (("undo", "a", ("a",)), ("redo", "a", ("a",)), ("save", "a", ("a",)), ("close", "a", ("a",)),
                      ("forget", "a", ("a",)), ("take_back", "x", ("a",)), ("restore", "x", ("a",)),
                      ("do", ("x", mark("a")), ("a",)), ("open", ("a", ""), ("b",)), ("open", ("a", ""), ("a", "b"))):
            self.assertEqual(told(replay, (event,)), ("BadLog", 0))

    def test_by_name(self):
        self.assertEqual(replay(log=(("open", ("a", "one"), ("a",)),)).content("a"), "one")


class OrderTest(unittest.TestCase):
    """Guarantee (d), as far as it speaks of replayed logs."""

    def test_neighbours_without_a_common_document_can_be_exchanged(self):
        exchanged = 0
        for seed in range(25):
            w = drawn_workspace(seed, 60, documents=6)
            log = w.log()
            for at in range(len(log) - 1):
                if not set(log[at][2]) & set(log[at + 1][2]):
                    other = replay(log[:at] + (log[at + 1], log[at]) + log[at + 2:])
                    self.assertEqual(other.state(), w.state())
                    exchanged += 1
        self.assertGreater(exchanged, 100)

    def test_many_exchanges(self):
        for seed in range(25):
            source = random.Random(seed)
            w = drawn_workspace(seed, 80, documents=8)
            log = list(w.log())
            for at in source.choices(range(len(log) - 1), k=400):
                if not set(log[at][2]) & set(log[at + 1][2]):
                    log[at], log[at + 1] = log[at + 1], log[at]
            other = replay(tuple(log))
            self.assertEqual(everything(other)[2:], everything(w)[2:])
            self.assertEqual(other.state(), w.state())

    def test_independent_presses_make_events_that_can_be_exchanged(self):
        exchanged = 0
        for seed in range(30):
            w = half_undone(seed, 25, documents=8)
            presses = list(itertools.product(("undo", "redo"), w.documents()))
            for first, second in itertools.combinations(presses, 2):
                copy = replay(w.log())
                done = [told(getattr(copy, kind), document)[0] for kind, document in (first, second)]
                if done == ["returned", "returned"]:
                    one, other = copy.log()[-2:]
                    if not set(one[2]) & set(other[2]):
                        self.assertEqual(replay(w.log() + (other, one)).state(), copy.state())
                        exchanged += 1
        self.assertGreater(exchanged, 20)


if __name__ == "__main__":
    unittest.main()
