"""Merging: point [30], and guarantee (g) of point [4]."""

import copy
import random
import unittest

from crossundo.errors import Conflict, DuplicateName
from crossundo.logs import alike
from crossundo.merging import merge, past
from crossundo.recovery import journals_of
from crossundo.replaying import replay
from tests.samples import CHANGES, DOCUMENTS, Model, draw_call, drawn_workspace, is_plain, journals_by_definition, mark
from tests.samples import number_of_first_bad, stirred, told

BASE = (("open", ("a", ""), ("a",)), ("open", ("b", ""), ("b",)), ("do", ("x", mark("a", "b")), ("a", "b")))


def model_of(log):
    """Return the plain model in which the events of a log were done."""
    model = Model()
    for kind, argument, _ in log:
        arguments = argument if kind in ("open", "do") else (argument,)
        assert model.told("open_document" if kind == "open" else kind, *arguments)[0] == "returned"
    return model


def continued(source, log, count, allowed=DOCUMENTS[:6]):
    """Return a log with drawn events behind it, whose footprints lie in the allowed documents."""
    model = model_of(log)
    for _ in range(count):
        method, *arguments = draw_call(source, model, allowed, CHANGES)
        after = copy.deepcopy(model)
        if after.told(method, *arguments)[0] == "returned" and set(after.events[-1][2]) <= set(allowed):
            model = after
    return model.log()


def rows_by_definition(log):
    """Return each event's row: the event and its places."""
    seen = {}
    rows = []
    for event in log:
        rows.append((event, tuple((document, seen.get(document, 0)) for document in event[2])))
        seen.update({document: seen.get(document, 0) + 1 for document in event[2]})
    return rows


def common_past(log, other):
    """Return the rows of the common past: rounds that drop what stands elsewhere or comes after what was dropped."""
    ours, others = rows_by_definition(log), rows_by_definition(other)
    left = [row for row in ours if row in others]
    changed = True
    while changed:
        changed = False
        for row in list(left):
            for rows in (ours, others):
                earlier = rows[:rows.index(row)]
                if any(set(event[2]) & set(row[0][2]) and (event, places) not in left for event, places in earlier):
                    if row in left:
                        left.remove(row)
                        changed = True
    return left


def past_by_definition(log, other):
    left = common_past(log, other)
    both = {d for e in log for d in e[2]} & {d for e in other for d in e[2]}
    return tuple((document, sum(document in event[2] for event, _ in left)) for document in sorted(both))


def merge_by_definition(log, other):
    left = common_past(log, other)
    ours = [event for event, places in rows_by_definition(log) if (event, places) not in left]
    others = [event for event, places in rows_by_definition(other) if (event, places) not in left]
    for document in sorted({d for e in ours for d in e[2]}):
        if any(document in event[2] for event in others):
            return "Conflict", document
    for name in sorted(event[1][0] for event in ours if event[0] == "do"):
        if any(event[0] == "do" and event[1][0] == name for event in others):
            return "DuplicateName", name
    return "returned", log + tuple(others)


def holds(log, part):
    """Return whether each document's events in a log begin with its events in the part."""
    return all([e for e in log if d in e[2]][:len(events)] == events
               for d, events in ((d, [e for e in part if d in e[2]]) for d in {d for e in part for d in e[2]}))


def pairs(count=70):
    """Yield pairs of logs: with a common past, exchanged, the same, beginnings, of other documents, with another content."""
    for seed in range(count):
        source = random.Random(seed)
        base = drawn_workspace(seed, source.choice((0, 4, 12, 25)), documents=5).log()
        one = continued(source, base, source.randint(0, 10), DOCUMENTS[:source.randint(2, 6)])
        other = continued(source, stirred(source, base), source.randint(0, 10), DOCUMENTS[source.randint(1, 3):6])
        yield one, other
        yield stirred(source, one), other
        # Documents of which only one log goes on.
        chosen = sorted(source.sample(DOCUMENTS[:6], 3))
        rest = [document for document in DOCUMENTS[:6] if document not in chosen]
        yield continued(source, base, 8, chosen), stirred(source, continued(source, stirred(source, base), 8, rest))
        for at in source.sample(range(len(one)), min(len(one), 6)):
            # What can be done without an event, or with one event more, or in another order.
            for changed in (one[:at] + one[at + 1:], one[:at + 1] + one[at:], one[:at] + one[at:at + 2][::-1] + one[at + 2:]):
                if number_of_first_bad(changed) is None:
                    yield one, changed
        if seed % 3 == 0:
            yield one, one
            yield one, stirred(source, one)
            yield one, one[:source.randint(0, len(one))]
            yield one, continued(source, (), 6, DOCUMENTS[6:])
            yield one, ()
        if seed % 3 == 1 and one:
            first = (("open", (one[0][1][0], "another"), one[0][2]),)
            # Events that do not look at the content can be done all the same.
            changed = first + one[1:]
            yield one, changed[:number_of_first_bad(changed)]


class Checks(unittest.TestCase):

    def check(self, log, other):
        """Compare past and merge with the definition, both ways about; return what merge tells."""
        shown = repr((log, other))
        for here, there in ((log, other), (other, log)):
            expected = past_by_definition(here, there)
            self.assertEqual(past(here, there), expected)
            self.assertEqual(expected, past_by_definition(log, other))
            self.assertTrue(is_plain(past(here, there)))
            result = told(merge, here, there)
            self.assertEqual(result, merge_by_definition(here, there))
            self.assertTrue(is_plain(result[1]))
        self.assertEqual(repr((log, other)), shown)
        first = told(merge, log, other)
        if first[0] == "returned":
            self.check_merged(log, other, first[1], merge(other, log))
        else:
            self.assertEqual(told(merge, other, log), first)
        return first

    def check_merged(self, log, other, merged, again):
        self.assertIs(alike(merged, again), True)
        workspace = replay(merged)
        self.assertEqual(workspace.state(), replay(again).state())
        self.assertEqual(journals_of(workspace), journals_of(replay(again)))
        for document, rows in journals_of(workspace):
            ours, others = (dict(journals_by_definition(part)).get(document, ()) for part in (log, other))
            self.assertEqual(rows, max(ours, others, key=len))
            self.assertEqual(min(ours, others, key=len), rows[:min(len(ours), len(others))])
        for part in (log, other):
            self.assertEqual(merge(merged, part), merged)
            self.assertIs(alike(merge(part, merged), merged), True)


class PairsTest(Checks):

    def test_pairs_of_logs(self):
        results = [self.check(log, other)[0] for log, other in pairs()]
        self.assertGreater(results.count("returned"), 100)
        self.assertGreater(results.count("Conflict"), 100)

    def test_the_same_log(self):
        for seed in range(10):
            log = drawn_workspace(seed, 40).log()
            self.assertEqual(merge(log, log), log)
            self.assertEqual(past(log, log), tuple((document, len(rows)) for document, rows in journals_by_definition(log)))
            other = stirred(random.Random(seed), log)
            self.assertEqual(merge(log, other), log)
            self.assertEqual(past(log, other), past(log, log))

    def test_a_beginning(self):
        for seed in range(6):
            log = drawn_workspace(seed, 30).log()
            for count in range(len(log)):
                self.assertEqual(merge(log[:count], log), log)
                self.assertEqual(merge(log, log[:count]), log)
                self.check(log, log[:count])

    def test_other_documents(self):
        one, other = (("open", ("a", ""), ("a",)),), (("open", ("b", ""), ("b",)),)
        self.assertEqual((past(one, other), merge(one, other), merge(other, one)), ((), one + other, other + one))
        self.assertEqual((past((), ()), merge((), ()), merge((), one), merge(one, ())), ((), (), one, one))

    def test_another_first_content(self):
        one, other = (("open", ("a", "one"), ("a",)),), (("open", ("a", "two"), ("a",)),)
        self.assertEqual(past(one, other), (("a", 0),))
        self.assertEqual(told(merge, one, other), ("Conflict", "a"))

    def test_an_event_that_stands_at_another_place(self):
        """The same row in one document does not count if an earlier event of another one is missing."""
        do = ("do", ("y", mark("a", "b")), ("a", "b"))
        one = BASE + (("save", "b", ("b",)), do)
        other = BASE + (do,)
        self.assertEqual(past(one, other), (("a", 2), ("b", 2)))
        self.assertEqual(told(merge, one, other), ("Conflict", "a"))
        self.check(one, other)

    def test_what_comes_after_what_is_not_common(self):
        """Equal rows do not count behind others that differ, through any number of documents."""
        opened = tuple(("open", (document, document), (document,)) for document in "abc")
        x, y = ("do", ("x", mark("a", "b")), ("a", "b")), ("do", ("y", mark("b", "c")), ("b", "c"))
        one = opened + (("save", "a", ("a",)), x, y)
        other = (("open", ("a", "other"), ("a",)),) + opened[1:] + (("save", "a", ("a",)), x, y)
        self.assertEqual(past(one, other), (("a", 0), ("b", 1), ("c", 1)))
        self.check(one, other)


class RefusedTest(Checks):

    def test_the_first_document(self):
        one = BASE + (("save", "b", ("b",)), ("close", "a", ("a", "b")))
        other = BASE + (("undo", "a", ("a", "b")),)
        self.assertEqual(self.check(one, other), ("Conflict", "a"))
        other = BASE + (("forget", "b", ("a", "b")), ("save", "a", ("a",)))
        self.assertEqual(self.check(one, other), ("Conflict", "a"))
        self.assertEqual(self.check(BASE + (("save", "b", ("b",)), ("undo", "b", ("a", "b"))), BASE + (("close", "b", ("a", "b")),)),
                         ("Conflict", "a"))
        self.assertEqual(self.check(BASE + (("save", "b", ("b",)),), BASE + (("close", "b", ("a", "b")),)), ("Conflict", "b"))

    def test_the_least_name(self):
        def doing(names, document):
            return BASE + tuple(("do", (name, mark(document)), (document,)) for name in names)
        for names, others, expected in ((["z"], ["z"], "z"), (["z", "y"], ["y", "z"], "y"), (["w", "v", "u"], ["t", "v", "w"], "v"),
                                        (["aa", "b"], ["b", "aa"], "aa")):
            self.assertEqual(self.check(doing(names, "a"), doing(others, "b")), ("DuplicateName", expected))
        for names, others in ((["z"], ["y"]), (["z"], []), (["u", "v"], ["w", "y"])):
            self.assertEqual(self.check(doing(names, "a"), doing(others, "b")),
                             ("returned", doing(names, "a") + doing(others, "b")[3:]))

    def test_a_conflict_comes_before_a_name(self):
        one = BASE + (("do", ("z", mark("a")), ("a",)), ("save", "b", ("b",)))
        other = BASE + (("do", ("z", mark("b")), ("b",)),)
        self.assertEqual(self.check(one, other), ("Conflict", "b"))
        self.assertEqual(self.check(one[:-1], other), ("DuplicateName", "z"))
        one = BASE + (("do", ("a", mark("b")), ("b",)),)
        self.assertEqual(self.check(one, BASE + (("do", ("a", mark("b")), ("b",)), ("save", "a", ("a",))))[0], "returned")
        self.assertEqual(self.check(one, BASE + (("do", ("a", mark("a", "b")), ("a", "b")),)), ("Conflict", "b"))

    def test_names_of_presses_are_no_actions(self):
        """Only actions that are done count, not those that are taken back or restored, nor documents."""
        base = BASE + (("open", ("c", ""), ("c",)), ("do", ("y", mark("c")), ("c",)))
        one = base + (("take_back", "x", ("a", "b")), ("restore", "x", ("a", "b")))
        other = base + (("take_back", "y", ("c",)), ("do", ("z", mark("c")), ("c",)))
        self.assertEqual(self.check(one, other), ("returned", one + other[5:]))

    def test_the_errors(self):
        with self.assertRaises(Conflict) as caught:
            merge(BASE + (("save", "a", ("a",)),), BASE + (("close", "a", ("a", "b")),))
        self.assertEqual(vars(caught.exception), {"document": "a"})
        with self.assertRaises(DuplicateName) as caught:
            merge(BASE + (("do", ("z", mark("a")), ("a",)),), BASE + (("do", ("z", mark("b")), ("b",)),))
        self.assertEqual(vars(caught.exception), {"name": "z"})


class ThreeLogsTest(Checks):

    def test_either_order_of_steps(self):
        merged_count = 0
        for seed in range(25):
            source = random.Random(seed)
            base = drawn_workspace(seed, 15, documents=6).log()
            documents = source.sample(DOCUMENTS[:6], 6)
            logs = [stirred(source, continued(source, base, 6, sorted(documents[at:at + 2]))) for at in (0, 2, 4)]
            one, two, three = logs
            results = []
            for first, second, third in ((one, two, three), (two, three, one), (three, one, two), (three, two, one)):
                step = told(merge, first, second)
                if step[0] == "returned":
                    results.append(told(merge, step[1], third))
                    other = told(merge, second, third)
                    if other[0] == "returned":
                        results.append(told(merge, first, other[1]))
            if all(result[0] == "returned" for result in results) and results:
                merged_count += 1
                for _, merged in results:
                    self.assertIs(alike(merged, results[0][1]), True)
                    self.assertEqual(replay(merged).state(), replay(results[0][1]).state())
                    for log in logs:
                        self.assertEqual(merge(merged, log), merged)
        self.assertGreater(merged_count, 10)


class GuaranteeTest(Checks):
    """Guarantee (g): logs can be merged exactly if some log holds both."""

    def some_log_holds(self, one, other):
        """Search all logs that the events of both can be put together to; return whether one holds both."""
        waiting = [()]
        tried = set()
        while waiting:
            log = waiting.pop()
            if holds(log, one) and holds(log, other):
                return True
            for event in sorted({*one, *other}):
                more = log + (event,)
                key = tuple(sorted((d, tuple(e for e in more if d in e[2])) for d in {d for e in more for d in e[2]}))
                if key not in tried and self.is_useful(more, event, one, other) and number_of_first_bad(more) is None:
                    tried.add(key)
                    waiting.append(more)
        return False

    def is_useful(self, log, event, one, other):
        """Return whether the last event of a log stands where one of both has it, in each of its documents."""
        for document in event[2]:
            events = [e for e in log if document in e[2]]
            if not any([e for e in part if document in e[2]][:len(events)] == events for part in (one, other)):
                return False
        return True

    def with_one_name(self, source):
        """Return logs that go on in other documents; an action of the one has at times a name of the other."""
        base = BASE + (("open", ("c", ""), ("c",)),)
        one = continued(source, base, 4, ("a", "b"))
        names = [event[1][0] for event in one[len(base):] if event[0] == "do"]
        return one, base + (("do", (source.choice(names or ["other"]), mark("c")), ("c",)),)

    def test_small_logs(self):
        results = []
        for seed in range(160):
            source = random.Random(seed)
            base = drawn_workspace(seed, 6, documents=3).log()[:5]
            split = source.randint(1, 3)
            allowed = (DOCUMENTS[:split], DOCUMENTS[split:4]) if seed % 2 else (DOCUMENTS[:3], DOCUMENTS[:4])
            one, other = (continued(source, base, 4, part) for part in allowed)
            if seed % 5 == 0:
                one, other = self.with_one_name(source)
            result = self.check(one, other)
            self.assertIs(result[0] == "returned", self.some_log_holds(one, other), (one, other))
            results.append(result[0])
        self.assertGreater(results.count("returned"), 40)
        self.assertGreater(results.count("Conflict"), 20)
        self.assertGreater(results.count("DuplicateName"), 5)

    def test_merged_workspaces_go_on(self):
        for seed in range(8):
            source = random.Random(seed)
            base = drawn_workspace(seed, 15, documents=4).log()
            one, other = continued(source, base, 8, DOCUMENTS[:3]), continued(source, base, 8, DOCUMENTS[4:7])
            result = told(merge, one, other)
            if result[0] == "returned":
                more = continued(source, result[1], 10)
                self.assertEqual(replay(more).log(), more)
                self.assertEqual(merge(more, other), more)


class CallsTest(unittest.TestCase):

    def test_arguments_by_name_in_another_order(self):
        one, other = BASE + (("open", ("c", ""), ("c",)),), BASE + (("save", "b", ("b",)),)
        self.assertEqual(past(other=other, log=one), (("a", 2), ("b", 2)))
        self.assertEqual(merge(other=other, log=one), one + other[3:])


if __name__ == "__main__":
    unittest.main()
