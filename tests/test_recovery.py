"""Recovery: points [24] and [25], and guarantee (f) of point [4]."""

import copy
import itertools
import random
import unittest

from crossundo.errors import BadJournals
from crossundo.recovery import is_journals, journals_of, kept, recover
from crossundo.replaying import replay
from crossundo.workspace import Workspace
from tests.samples import BUSY, CIRCLE, DOCUMENTS, KINDS, all_damaged, anything, beginnings, bent, cut_off
from tests.samples import doc_workspace, drawn_calls, drawn_workspace, everything, is_journals_by_definition, is_plain
from tests.samples import journals_by_definition, kept_by_definition, kept_journals, mark, number_of_first_bad
from tests.samples import some_journals, told, workspaces


def in_some_order(journals):
    """Return the events of kept rows in an order in which each comes after the earlier rows of its documents; or None."""
    left = {document: list(rows) for document, rows in kept_journals(journals)}
    total = {row for rows in left.values() for row in rows}
    events = []
    while any(left.values()):
        ready = [rows[0] for rows in left.values() if rows
                 and all(left[document][0] == rows[0] for document, _ in rows[0][1])]
        if not ready:
            return None
        row = max(ready)
        events.append(row[0])
        for document, _ in row[1]:
            left[document].pop(0)
    assert len(events) == len(total)
    return tuple(events)


class IsJournalsTest(unittest.TestCase):

    def check(self, thing):
        expected = is_journals_by_definition(thing)
        self.assertIs(is_journals(thing), expected)
        return expected

    def test_journals_of_workspaces(self):
        self.assertIs(is_journals(()), True)
        for journals in some_journals():
            self.assertIs(is_journals(journals), True)

    def test_damaged_journals_have_the_form(self):
        for journals in all_damaged():
            self.assertIs(is_journals_by_definition(journals), True)
            self.assertIs(is_journals(journals), True)

    def test_one_or_two_parts_bent(self):
        found = []
        base = [journals for journals in some_journals() if journals]
        small = [beginnings(journals, [3] * 9) for journals in base] + [CIRCLE, (("a", ()),)]
        for seed in range(4000):
            source = random.Random(seed)
            journals = small[seed % len(small)] if seed % 3 else base[seed % len(base)]
            once = bent(source, journals)
            found.append(self.check(once))
            found.append(self.check(bent(source, once)))
        self.assertGreater(found.count(True), 300)
        self.assertGreater(found.count(False), 300)

    def test_by_hand(self):
        event = ("save", "a", ("a",))
        row = (event, (("a", 0),))
        two = (("undo", "a", ("a", "b")), (("a", 0), ("b", 7)))
        for thing in ((), (("a", ()),), (("a", (row,)),), (("a", (two,)),), (("a", (row,)), ("b", ())),
                      (("b", ((("undo", "a", ("a", "b")), (("a", 10 ** 30), ("b", 0))),)),)):
            self.assertIs(is_journals(thing), True, thing)
        for thing in ([], [("a", ())], (("a", []),), (["a", ()],), (("a",),), (("a", (), ()),), ((("a", ()),),), (("a", (row, row)),),
                      (("b", (row,)),), (("a", (row,)), ("a", ())), (("b", ()), ("a", ())), (("A", ()),), ((1, ()),),
                      (("a", (event,)),), (("a", ((event, ()),)),), (("a", ((event, (("a", 1),)),)),),
                      (("a", ((event, [("a", 0)]),)),), (("a", ((event, (["a", 0],)),)),), (("a", ((event, (("a", False),)),)),),
                      (("a", ((event, (("a", 0), ("b", 0))),)),), (("a", ((event, (("a", 0), ("a", 0))),)),),
                      (("a", ((event, (("b", 0),)),)),), (("a", ((event, (("a", 0),), ()),)),), (("a", ([event, (("a", 0),)],)),),
                      (("a", ((("undo", "a", ("a", "b")), (("b", 7), ("a", 0))),)),),
                      (("a", ((("undo", "a", ("a", "b")), (("a", 0), ("b", -1))),)),),
                      (("a", ((("undo", "a", ("a", "b")), (("a", 0), ("b", True))),)),),
                      (("a", ((("undo", "a", ("a", "b")), (("a", 0),)),)),),
                      (("c", ((("undo", "a", ("a", "b")), (("a", 0), ("b", 0))),)),)):
            self.assertIs(is_journals(thing), False, thing)

    def test_the_number_of_a_row(self):
        for journals in some_journals(6):
            for at, (document, rows) in enumerate(journals):
                if len(rows) > 1:
                    for changed in (rows[1:], rows[::-1], rows[:1] + rows, rows[1:2] + rows[:1] + rows[2:]):
                        self.assertIs(is_journals(journals[:at] + ((document, changed),) + journals[at + 1:]), False)

    def test_without_the_journal_of_a_document(self):
        for journals in some_journals(6):
            for at in range(len(journals)):
                self.assertIs(is_journals(journals[:at] + journals[at + 1:]), True)
                self.assertIs(is_journals(journals[at:at + 1]), True)

    def test_objects_of_any_kind(self):
        row = (("save", "a", ("a",)), (("a", 0),))
        for thing in anything():
            if thing != () if type(thing) is tuple else True:
                self.check(thing)
            self.check((("a", thing),))
            self.check((("a", (thing,)),))
            self.check(((thing, (row,)),))
            self.check((("a", (row,)), thing))
            self.check((("a", ((thing, row[1]),)),))
            self.check((("a", ((row[0], thing),)),))
            self.check((("a", ((row[0], (thing,)),)),))
            self.check((("a", ((row[0], ((thing, 0),)),)),))
            self.check((("a", ((row[0], (("a", thing),)),)),))
            self.check((("a", ((("save", thing, ("a",)), row[1]),)),))


class JournalsOfTest(unittest.TestCase):

    def test_against_the_journals_of_each_document(self):
        for workspace in (Workspace(), *workspaces()):
            journals = journals_of(workspace)
            self.assertEqual(journals, journals_by_definition(workspace.log()))
            self.assertTrue(is_plain(journals))
            for document, rows in journals:
                self.assertEqual(rows, workspace.journal(document))
            opened = {event[1][0] for event in workspace.log() if event[0] == "open"}
            self.assertEqual([document for document, _ in journals], sorted(opened))

    def test_closed_documents_too(self):
        w = doc_workspace("b", "a")
        w.close("b")
        self.assertEqual([(document, len(rows)) for document, rows in journals_of(w)], [("a", 1), ("b", 2)])
        w.close("a")
        w.open_document("a")
        self.assertEqual([(document, len(rows)) for document, rows in journals_of(w)], [("a", 3), ("b", 2)])

    def test_nothing_is_changed(self):
        for workspace in workspaces(3):
            before = everything(workspace)
            self.assertEqual(journals_of(workspace), journals_of(workspace))
            self.assertEqual(everything(workspace), before)


class KeptTest(unittest.TestCase):

    def check(self, journals):
        """Compare with dropping rows again and again; return how many rows are lost."""
        left = kept_by_definition(journals)
        shown = repr(journals)
        counts = kept(journals)
        self.assertEqual(repr(journals), shown)
        self.assertTrue(is_plain(counts))
        self.assertEqual([document for document, _ in counts], [document for document, _ in journals])
        self.assertEqual({(document, number) for document, count in counts for number in range(count)}, left)
        return sum(len(rows) for _, rows in journals) - len(left)

    def test_uncut_journals(self):
        for journals in some_journals():
            self.assertEqual(self.check(journals), 0)
        self.assertEqual(kept(()), ())
        self.assertEqual(kept((("a", ()),)), (("a", 0),))

    def test_damaged_journals(self):
        lost = [self.check(journals) for journals in all_damaged()]
        self.assertGreater(sum(count > 3 for count in lost), 100)
        self.assertGreater(lost.count(0), 50)

    def test_each_journal_cut_off_at_each_place(self):
        for journals in some_journals(5):
            for at, (document, rows) in enumerate(journals):
                for count in range(len(rows)):
                    cut = journals[:at] + ((document, rows[:count]),) + journals[at + 1:]
                    self.check(cut)
                    self.assertEqual(dict(kept(cut))[document], count)

    def test_without_the_journal_of_a_document(self):
        for journals in some_journals(8):
            for at in range(len(journals)):
                self.check(journals[:at] + journals[at + 1:])
                self.check(journals[at:at + 1])

    def test_a_circle_stays(self):
        self.assertEqual(kept(CIRCLE), (("a", 2), ("b", 2)))
        self.assertEqual(kept((CIRCLE[0], ("b", CIRCLE[1][1][:1]))), (("a", 0), ("b", 0)))
        self.assertEqual(kept(CIRCLE[:1]), (("a", 0),))

    def test_a_place_that_points_elsewhere(self):
        w = doc_workspace("a", "b")
        w.do("x", mark("a", "b"))
        w.save("a")
        (a, rows), b = journals_of(w)
        for number in (0, 2, 3, 99):
            changed = rows[:1] + ((rows[1][0], (("a", 1), ("b", number))),) + rows[2:]
            self.assertEqual(kept(((a, changed), b)), (("a", 1), ("b", 1)))

    def test_a_chain_over_all_documents(self):
        w = doc_workspace(*DOCUMENTS)
        for at in range(7):
            w.do("xyzuvwt"[at], mark(*DOCUMENTS[at:at + 2]))
        journals = journals_of(w)
        self.assertEqual(kept(beginnings(journals, (1, 3, 3, 3, 3, 3, 3, 3))), tuple(zip(DOCUMENTS, (1,) * 8)))
        self.assertEqual(kept(beginnings(journals, (2, 3, 3, 3, 3, 3, 3, 1))), tuple(zip(DOCUMENTS, (2, 3, 3, 3, 3, 3, 2, 1))))

    def test_the_longest_journals(self):
        for seed in range(3):
            w = drawn_workspace(seed, 250, 8, BUSY)
            while len(w.log()) < 205:
                w.save(w.documents()[seed])
            journals = journals_of(w)
            self.assertEqual(self.check(journals), 0)
            self.check(cut_off(random.Random(seed), journals))


class RecoverTest(unittest.TestCase):

    def check(self, journals):
        """Compare with the words of the document; return whether a workspace is recovered."""
        shown = repr(journals)
        order = in_some_order(journals)
        if order is None or number_of_first_bad(order) is not None:
            self.refuses(journals)
            self.assertEqual(repr(journals), shown)
            return False
        workspace = recover(journals)
        self.assertIsInstance(workspace, Workspace)
        self.assertEqual(repr(journals), shown)
        self.assertEqual(sorted(workspace.log()), sorted(order))
        self.assertEqual(journals_of(workspace), kept_journals(journals))
        self.assertEqual(journals_by_definition(workspace.log()), kept_journals(journals))
        self.assertEqual(workspace.state(), replay(order).state())
        self.assertEqual(recover(journals).state(), workspace.state())
        self.assertEqual(recover(journals).log(), workspace.log())
        return True

    def refuses(self, thing):
        with self.assertRaises(BadJournals) as caught:
            recover(thing)
        self.assertIs(type(caught.exception), BadJournals)
        self.assertEqual(vars(caught.exception), {})

    def test_uncut_journals_bring_the_same_state(self):
        for workspace in workspaces():
            self.assertTrue(self.check(journals_of(workspace)))
            again = recover(journals_of(workspace))
            self.assertEqual(again.state(), workspace.state())
            self.assertEqual(sorted(again.log()), sorted(workspace.log()))
            self.assertEqual(journals_of(again), journals_of(workspace))

    def test_no_journals(self):
        for journals in ((), (("a", ()),), (("a", ()), ("b", ()))):
            self.assertEqual(recover(journals).state(), ((), (), ()))
            self.assertEqual(recover(journals).log(), ())

    def test_cut_journals_of_a_workspace_are_always_recovered(self):
        for seed, journals in enumerate(some_journals(9) * 12):
            self.assertTrue(self.check(cut_off(random.Random(seed), journals, 0.3 + seed % 7 / 10)))

    def test_damaged_journals(self):
        found = [self.check(journals) for journals in all_damaged(200)]
        self.assertGreater(found.count(True), 100)
        self.assertGreater(found.count(False), 100)

    def test_without_the_journal_of_a_document(self):
        for journals in some_journals(8):
            for at in range(len(journals)):
                self.assertTrue(self.check(journals[:at] + journals[at + 1:]))

    def test_a_circle(self):
        self.refuses(CIRCLE)
        w = doc_workspace("a", "b")
        opened = journals_of(w)
        circle = tuple(
            (document, rows + tuple((event, tuple((other, number + 1) for other, number in places)) for event, places in more))
            for (document, rows), (_, more) in zip(opened, CIRCLE))
        self.assertEqual(kept(circle), (("a", 3), ("b", 3)))
        self.refuses(circle)

    def test_another_event_in_all_journals(self):
        """Another kind, argument, content, edit or footprint, written consistently."""
        found = []
        for seed, workspace in enumerate(workspaces(9)):
            source = random.Random(seed)
            log = workspace.log()
            for at, (kind, argument, footprint) in enumerate(log):
                wider = tuple(sorted({*footprint, source.choice(DOCUMENTS)}))
                others = [(kind, argument, wider), (kind, argument, footprint[1:] or ("h",))]
                if kind == "open":
                    others += [(kind, (argument[0], "other"), footprint), (kind, ("q", argument[1]), footprint)]
                elif kind == "do":
                    name, (first, *rest) = argument
                    others += [(kind, ("other", argument[1]), footprint), (kind, (log[0][1][0], argument[1]), footprint),
                               (kind, (name, ((first[0], first[1] + 1, *first[2:]), *rest)), footprint),
                               (kind, (name, ((*first[:2], first[2] + "q", first[3]), *rest)), footprint),
                               (kind, (name, ((*first[:3], "z" * 400), *rest)), footprint),
                               (kind, (name, ((*first[:3], "z"), *rest)), footprint)]
                else:
                    others += [(source.choice(KINDS[2:]), argument, footprint), (kind, source.choice(DOCUMENTS), footprint),
                               (kind, "never", footprint)]
                for other in source.sample(others, 3):
                    found.append(self.check(journals_by_definition(log[:at] + (other,) + log[at + 1:])))
        self.assertGreater(found.count(True), 50)
        self.assertGreater(found.count(False), 100)

    def test_an_event_left_out_repeated_or_moved(self):
        found = []
        for seed, workspace in enumerate(workspaces(9)):
            source = random.Random(seed)
            log = workspace.log()
            for at in source.sample(range(len(log)), min(len(log), 12)):
                to = source.randrange(len(log))
                rest = log[:at] + log[at + 1:]
                for other in (rest, log[:at + 1] + log[at:], rest[:to] + log[at:at + 1] + rest[to:]):
                    found.append(self.check(journals_by_definition(other)))
        self.assertGreater(found.count(True), 20)
        self.assertGreater(found.count(False), 100)

    def test_what_cannot_be_done_but_was_not_kept(self):
        w = doc_workspace("a", "b")
        w.do("x", mark("a", "b"))
        (a, rows), b = journals_of(w)
        bad = (("undo", "c", ("a", "c")), (("a", 2), ("c", 0)))
        self.assertEqual(recover(((a, rows + (bad,)), b)).state(), w.state())
        self.refuses(((a, rows + ((("undo", "c", ("a",)), (("a", 2),)),)), b))
        self.refuses(((a, rows + (bad,)), b, ("c", (bad,))))

    def test_what_is_not_of_the_form(self):
        found = []
        base = [journals for journals in some_journals() if journals]
        for seed in range(800):
            source = random.Random(seed)
            thing = bent(source, base[seed % len(base)])
            if not is_journals_by_definition(thing):
                self.refuses(thing)
                found.append(thing)
        self.assertGreater(len(found), 100)

    def test_objects_of_any_kind(self):
        for thing in anything():
            if type(thing) is not tuple or thing != ():
                self.refuses(thing)
            self.refuses(((thing, ()), ("a", ())))
            self.refuses((("a", (thing,)),))

    def test_what_is_passed_in_stays(self):
        for thing in ([("a", [])], (("a", [["save"]]),), {"a": []}, (("a", ((["save", "a"], [("a", 0)]),)),)):
            before = copy.deepcopy(thing)
            self.refuses(thing)
            self.assertIs(is_journals(thing), False)
            self.assertEqual(thing, before)

    def test_the_longest_journals(self):
        for seed in range(2):
            w = drawn_workspace(seed, 250, 8, BUSY)
            while len(w.log()) < 205:
                w.save(w.documents()[seed])
            self.assertEqual(recover(journals_of(w)).state(), w.state())
            self.check(cut_off(random.Random(seed), journals_of(w)))


class GuaranteeTest(unittest.TestCase):
    """Guarantee (f)."""

    def small_histories(self):
        for seed in range(40):
            w = Workspace()
            for method, arguments, _, _ in drawn_calls(seed, 40, 3):
                if len(w.log()) < 10:
                    told(getattr(w, method), *arguments)
            yield random.Random(seed), w

    def union_of_all_that_is_left_whole(self, log, counts):
        """Return the numbers of the events in one of the sets that are whole and contain earlier events of documents."""
        seen = {}
        numbers = []
        for event in log:
            numbers.append({document: seen.get(document, 0) for document in event[2]})
            seen.update({document: seen.get(document, 0) + 1 for document in event[2]})
        whole = [at for at in range(len(log)) if all(counts[document] > n for document, n in numbers[at].items())]
        union = set()
        for size in range(len(whole) + 1):
            for chosen in itertools.combinations(whole, size):
                if all(earlier in chosen for at in chosen for earlier in range(at) if set(log[earlier][2]) & set(log[at][2])):
                    union.update(chosen)
        return union

    def test_small_histories(self):
        sizes = []
        for source, w in self.small_histories():
            journals = journals_of(w)
            for _ in range(12):
                cut = cut_off(source, journals, 0.8)
                union = self.union_of_all_that_is_left_whole(w.log(), {document: len(rows) for document, rows in cut})
                expected = tuple(event for at, event in enumerate(w.log()) if at in union)
                recovered = recover(cut)
                self.assertEqual(sorted(recovered.log()), sorted(expected))
                self.assertEqual(recovered.state(), replay(expected).state())
                self.assertEqual(journals_of(recovered), journals_by_definition(expected))
                sizes.append(len(union))
        self.assertGreater(len(set(sizes)), 7)

    def test_cut_off_at_a_moment_of_the_log(self):
        for w in workspaces(9):
            log = w.log()
            journals = journals_of(w)
            for count in range(0, len(log) + 1, 3):
                lengths = [sum(document in event[2] for event in log[:count]) for document, _ in journals]
                recovered = recover(beginnings(journals, lengths))
                self.assertEqual(sorted(recovered.log()), sorted(log[:count]))
                self.assertEqual(recovered.state(), replay(log[:count]).state())

    def test_cut_twice(self):
        for seed, w in enumerate(workspaces(9) * 4):
            source = random.Random(seed)
            journals = journals_of(w)
            first = cut_off(source, journals)
            middle = dict(journals_of(recover(first)))
            second = [source.randint(0, len(rows)) if source.random() < 0.5 else len(rows) for _, rows in journals]
            again = recover(tuple((document, middle[document][:count])
                                  for (document, _), count in zip(journals, second) if document in middle))
            lower = beginnings(journals, [min(len(rows), count) for (_, rows), count in zip(first, second)])
            self.assertEqual(again.state(), recover(lower).state())
            self.assertEqual(journals_of(again), journals_of(recover(lower)))

    def test_every_other_workspace_of_beginnings_has_fewer_rows(self):
        others = 0
        for source, w in self.small_histories():
            cut = cut_off(source, journals_of(w), 0.8)
            found = dict(journals_of(recover(cut)))
            for counts in itertools.product(*(range(len(rows) + 1) for _, rows in cut)):
                part = beginnings(cut, counts)
                if len(kept_by_definition(part)) == sum(counts):
                    self.assertEqual(journals_of(recover(part)), tuple(pair for pair in part if pair[1]))
                    for document, rows in part:
                        self.assertEqual(found.get(document, ())[:len(rows)], rows)
                    others += 1
            for document, rows in cut:
                self.assertEqual(rows[:len(found.get(document, ()))], found.get(document, ()))
        self.assertGreater(others, 200)


class GoesOnTest(unittest.TestCase):

    def test_further_calls(self):
        for seed, w in enumerate(workspaces(9)):
            cut = cut_off(random.Random(seed), journals_of(w))
            recovered = recover(cut)
            left = set(recovered.log())
            other = replay(recovered.log())
            self.assertLessEqual(left, set(w.log()))
            for method, arguments, _, _ in drawn_calls(seed + 500, 25):
                self.assertEqual(told(getattr(recovered, method), *arguments), told(getattr(other, method), *arguments))
            self.assertEqual(everything(recovered), everything(other))

    def test_the_lost_events_done_again(self):
        lost_count = 0
        for seed, w in enumerate(workspaces(9) * 3):
            recovered = recover(cut_off(random.Random(seed), journals_of(w)))
            counts = {document: len(rows) for document, rows in journals_of(recovered)}
            for kind, argument, footprint in w.log():
                if counts.get(footprint[0], 0) > 0:
                    for document in footprint:
                        counts[document] -= 1
                else:
                    lost_count += 1
                    method = getattr(recovered, "open_document" if kind == "open" else kind)
                    method(*(argument if kind in ("open", "do") else (argument,)))
            self.assertEqual(recovered.state(), w.state())
            self.assertEqual(journals_of(recovered), journals_of(w))
        self.assertGreater(lost_count, 100)

    def test_a_recovered_workspace_is_a_new_one(self):
        w = doc_workspace("a")
        journals = journals_of(w)
        copied = recover(journals)
        copied.do("x", mark("a"))
        self.assertEqual((w.content("a"), copied.content("a")), ("a", "!a"))
        self.assertEqual(journals, journals_of(w))
        self.assertEqual(recover(journals).content("a"), "a")


class CallsTest(unittest.TestCase):

    def test_arguments_by_name(self):
        w = doc_workspace("a")
        journals = journals_of(workspace=w)
        self.assertIs(is_journals(thing=journals), True)
        self.assertEqual(kept(journals=journals), (("a", 1),))
        self.assertEqual(recover(journals=journals).content("a"), "a")


if __name__ == "__main__":
    unittest.main()
