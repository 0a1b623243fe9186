"""Logs that are alike: point [23], and guarantee (d) of point [4]."""

import itertools
import random
import unittest

from crossundo.logs import alike, difference, exchanges
from crossundo.recovery import journals_of
from crossundo.replaying import replay
from tests.samples import BUSY, can_exchange, drawn_workspace, exchanged, is_plain, stirred

POOL = tuple((kind, "a", footprint) for kind, footprint in (
    ("save", ("a",)), ("save", ("b",)), ("undo", ("a", "b")), ("redo", ("b", "c")), ("close", ("c",)),
    ("forget", ("a", "c")), ("undo", ("d",)), ("restore", ("a", "b", "d"))))


def reachable(log):
    """Return all logs that exchanges of neighbours without a common document lead to."""
    found = {log}
    waiting = [log]
    while waiting:
        now = waiting.pop()
        for at in range(len(now) - 1):
            if can_exchange(now, at) and exchanged(now, at) not in found:
                found.add(exchanged(now, at))
                waiting.append(exchanged(now, at))
    return found


def difference_by_definition(log, other):
    for document in sorted({document for event in log + other for document in event[2]}):
        pairs = itertools.zip_longest(*([e for e in events if document in e[2]] for events in (log, other)))
        for number, (here, there) in enumerate(pairs):
            if here != there:
                return document, number
    return None


def small_logs():
    """Return logs of up to six events, of pools so small that many events are equal."""
    logs = [()]
    for seed in range(150):
        source = random.Random(seed)
        pool = source.sample(POOL, source.randint(1, 5))
        logs.append(tuple(source.choices(pool, k=seed % 7)))
    return logs


def changed_logs(source, log):
    """Return logs with an event left out, repeated, replaced, put in or moved."""
    found = [log[::-1], log + log, log + (source.choice(POOL),)]
    for at in range(len(log)):
        other = source.choice(POOL)
        found += [log[:at] + log[at + 1:], log[:at + 1] + log[at:], log[:at] + (other,) + log[at + 1:],
                  log[:at] + (other,) + log[at:], log[:at] + log[at + 1:] + log[at:at + 1],
                  log[at:at + 1] + log[:at] + log[at + 1:]]
        if at + 1 < len(log):
            found.append(exchanged(log, at))
    return found


class Checks(unittest.TestCase):

    def check(self, log, other, expected):
        """Compare all three functions with whether the logs are alike, both ways about."""
        shown = repr((log, other))
        for here, there in ((log, other), (other, log)):
            self.assertIs(alike(here, there), expected)
            numbers = exchanges(here, there)
            if expected:
                self.check_numbers(here, there, numbers)
            else:
                self.assertIsNone(numbers)
            found = difference(here, there)
            self.assertEqual(found, difference_by_definition(log, other))
            self.assertIs(found is None, expected)
            self.assertTrue(is_plain((numbers, found)))
        self.assertEqual(repr((log, other)), shown)

    def check_numbers(self, log, other, numbers):
        self.assertIs(type(numbers), tuple)
        for number in numbers:
            self.assertIn(number, range(len(log) - 1))
            self.assertTrue(can_exchange(log, number))
            log = exchanged(log, number)
        self.assertEqual(log, other)


class SmallLogsTest(Checks):

    def test_all_orders(self):
        found = []
        for log in small_logs():
            class_of = reachable(log)
            orders = sorted(set(itertools.permutations(log)))
            for other in random.Random(1).sample(orders, min(len(orders), 25)):
                self.check(log, other, other in class_of)
                found.append(other in class_of)
            for other in sorted(class_of)[:10]:
                self.check(log, other, True)
        self.assertGreater(found.count(True), 100)
        self.assertGreater(found.count(False), 100)

    def test_an_event_left_out_repeated_replaced_or_moved(self):
        found = []
        for seed, log in enumerate(small_logs()):
            class_of = reachable(log)
            for other in changed_logs(random.Random(seed), log):
                self.check(log, other, other in class_of)
                found.append(other in class_of)
        self.assertGreater(found.count(True), 100)
        self.assertGreater(found.count(False), 100)

    def test_all_pairs_of_logs_of_two_events(self):
        logs = list(itertools.product(POOL[:6], repeat=2))
        for log in logs:
            for other in logs:
                self.check(log, other, other in reachable(log))

    def test_empty_logs(self):
        self.check((), (), True)
        self.assertEqual(exchanges((), ()), ())
        for event in POOL:
            self.check((), (event,), False)
            self.check((event,), (event,), True)
            self.assertEqual(exchanges((event,), (event,)), ())
            self.assertEqual(difference((), (event,)), (event[2][0], 0))

    def test_equal_events(self):
        save, other = POOL[0], POOL[1]
        self.check((save, save, other), (other, save, save), True)
        self.check((save, other, save), (save, save, other), True)
        self.check((save, save, other), (save, other, other), False)
        self.assertEqual(difference((save, save), (save,)), ("a", 1))

    def test_events_that_differ_in_one_thing_only(self):
        event = ("do", ("x", (("a", 0, "one", "two"),)), ("a",))
        for other in (("do", ("y", (("a", 0, "one", "two"),)), ("a",)), ("do", ("x", (("a", 0, "one", "six"),)), ("a",)),
                      ("do", ("x", (("a", 1, "one", "two"),)), ("a",)), ("do", ("x", (("a", 0, "one", "two"),)), ("a", "b"))):
            self.check((event,), (other,), False)
            self.check((event, POOL[4]), (POOL[4], other), False)


class DifferenceTest(Checks):

    def test_the_first_document_ascending(self):
        a, b, both = POOL[0], POOL[1], POOL[2]
        self.assertEqual(difference((b, a), (a,)), ("b", 0))
        self.assertEqual(difference((b, both), (b,)), ("a", 0))
        self.assertEqual(difference((b, both, a), (b, both)), ("a", 1))
        self.assertEqual(difference((both, b), (b, both)), ("b", 0))
        self.assertEqual(difference((a, both), (both, a)), ("a", 0))

    def test_one_log_a_beginning_of_the_other_one(self):
        for seed in range(20):
            log = drawn_workspace(seed, 40).log()
            for count in range(len(log)):
                self.check(log, log[:count], False)

    def test_without_a_common_event(self):
        for seed in range(10):
            source = random.Random(seed)
            log = tuple(source.choices(POOL[::2], k=8))
            self.check(log, tuple(source.choices(POOL[1::2], k=8)), False)

    def test_two_hundred_events_that_differ_near_their_ends(self):
        for seed in range(12):
            source = random.Random(seed)
            log = tuple(source.choices(POOL, k=200))
            at = source.randint(185, 199)
            other = log[:at] + (("take_back", "other", log[at][2]),) + log[at + 1:]
            self.check(log, other, False)
            self.assertEqual(difference(log, other)[0], log[at][2][0])
            self.check(log, log[:at] + log[at + 1:], False)
            self.assertGreater(difference(log, other)[1], 10)


class LongLogsTest(Checks):

    def test_some_sixty_events(self):
        for seed in range(20):
            source = random.Random(seed)
            log = tuple(source.choices(POOL, k=60))
            other = stirred(source, log)
            self.check(log, other, True)
            for changed in source.sample(changed_logs(source, log), 5):
                self.check(other, changed, difference_by_definition(log, changed) is None)

    def test_all_events_move(self):
        save_a, save_b = POOL[0], POOL[1]
        self.check((save_a,) * 30 + (save_b,) * 30, (save_b,) * 30 + (save_a,) * 30, True)
        self.assertEqual(len(exchanges((save_a,) * 30 + (save_b,) * 30, (save_b,) * 30 + (save_a,) * 30)), 900)

    def test_the_longest_logs(self):
        for seed in range(2):
            source = random.Random(seed)
            log = tuple(source.choices(POOL, k=210))
            self.check(log, stirred(source, log, 3000), True)


class OrderTest(Checks):
    """Guarantee (d)."""

    def test_exchanged_logs_leave_the_same_state_and_journals(self):
        for seed in range(20):
            w = drawn_workspace(seed, 60, documents=6)
            other = stirred(random.Random(seed), w.log())
            self.check(w.log(), other, True)
            again = replay(other)
            self.assertEqual(again.state(), w.state())
            self.assertEqual(journals_of(again), journals_of(w))

    def test_each_log_on_the_way_can_be_replayed(self):
        for seed in range(4):
            w = drawn_workspace(seed, 30, documents=6, weights=BUSY)
            log = w.log()
            for number in exchanges(log, stirred(random.Random(seed), log)):
                log = exchanged(log, number)
                self.assertEqual(replay(log).state(), w.state())

    def test_unlike_neighbours_of_a_common_document_exchanged_are_not_alike(self):
        count = 0
        for seed in range(10):
            log = drawn_workspace(seed, 60).log()
            for at in range(len(log) - 1):
                if not can_exchange(log, at) and log[at] != log[at + 1]:
                    self.check(log, exchanged(log, at), False)
                    count += 1
        self.assertGreater(count, 100)

    def test_alike_exactly_if_the_journals_are_the_same(self):
        found = []
        for seed in range(15):
            w = drawn_workspace(seed, 30, documents=5)
            for at in range(len(w.log()) - 1):
                other = exchanged(w.log(), at)
                same = [[e for e in w.log() if d in e[2]] == [e for e in other if d in e[2]] for d in "abcdefgh"]
                self.assertIs(alike(w.log(), other), all(same))
                found.append(all(same))
        self.assertIn(True, found)
        self.assertIn(False, found)


class CallsTest(unittest.TestCase):

    def test_arguments_by_name_in_another_order(self):
        log, other = (POOL[0], POOL[1]), (POOL[1], POOL[0])
        self.assertIs(alike(other=other, log=log), True)
        self.assertEqual(exchanges(other=other, log=log), (0,))
        self.assertEqual(difference(other=other[:1], log=log), ("a", 0))
        # Which of both is the first one can be seen only here.
        log = (POOL[0], POOL[1], POOL[4])
        other = (POOL[4], POOL[0], POOL[1])
        self.assertEqual(exchanges(other=other, log=log), exchanges(log, other))
        self.assertNotEqual(exchanges(other=other, log=log), exchanges(other, log))

    def test_the_same_again(self):
        log, other = (POOL[0], POOL[1], POOL[4]), (POOL[4], POOL[0], POOL[1])
        self.assertEqual(exchanges(log, other), exchanges(log, other))


if __name__ == "__main__":
    unittest.main()
