"""Routes: point [29]."""

import time
import unittest

from crossundo.cuts import cuts_of, redo_set, undo_set
from crossundo.errors import TooMany
from crossundo.routes import shortest
from tests.samples import ACTIONS, CHAIN, DOCUMENTS, all_small_heaps, chains, cuts_by_definition, is_plain, pairs_below
from tests.samples import random_heap


def ends_by_definition(heap, cuts):
    """Return, for each cut, each press that can be done with the cut to which it leads: the nearest one."""
    pairs = pairs_below(heap)
    ends = {}
    for cut in cuts:
        ends[cut] = {}
        for document in sorted({document for _, documents in heap for document in documents}):
            names = [name for name, documents in heap if document in documents]
            done = [name for name in names if name in cut]
            undone = [name for name in names if name not in cut]
            if done:
                above = {y for x, y in pairs if x == done[-1]}
                ends[cut]["undo", document] = cut - above - {done[-1]}
            if undone:
                below = {x for x, y in pairs if y == undone[0]}
                ends[cut]["redo", document] = cut | below | {undone[0]}
    return ends


def distances(ends, cut):
    """Return, for each cut, the fewest presses that lead to it."""
    found = {cut: 0}
    latest = [cut]
    while latest:
        reached = []
        for start in latest:
            for end in ends[start].values():
                if end not in found:
                    found[end] = found[start] + 1
                    reached.append(end)
        latest = reached
    return found


def written(cut):
    return tuple(sorted(cut))


class RoutesTest(unittest.TestCase):

    def check_route(self, heap, ends, cut, goal, count):
        shown = repr((heap, cut, goal))
        route = shortest(heap, written(cut), written(goal))
        self.assertEqual(repr((heap, cut, goal)), shown)
        self.assertTrue(is_plain(route))
        self.assertIs(type(route), tuple)
        self.assertEqual(len(route), count, (heap, cut, goal, route))
        for press in route:
            self.assertIs(type(press), tuple)
            self.assertIn(press, ends[cut])
            cut = ends[cut][press]
        self.assertEqual(cut, goal)

    def check_all(self, heap, starts, goals):
        """Compare with a search of the test's own, for some pairs of cuts."""
        cuts = cuts_by_definition(heap)
        ends = ends_by_definition(heap, cuts)
        lengths = []
        for cut in cuts[::max(1, len(cuts) // starts)]:
            found = distances(ends, cut)
            for goal in cuts[::max(1, len(cuts) // goals)]:
                self.check_route(heap, ends, cut, goal, found[goal])
                lengths.append(found[goal])
        return lengths

    def test_all_cuts_of_small_heaps(self):
        lengths = []
        for heap in list(all_small_heaps())[::25]:
            lengths += self.check_all(heap, 99, 99)
        for seed in range(25):
            lengths += self.check_all(random_heap(seed, 5, documents=4, most=2), 8, 8)
        self.assertEqual(set(lengths), {0, 1, 2, 3, 4, 5})

    def test_chains_across_documents(self):
        for count in range(9, 13):
            heap = tuple(("abcdefghijkl"[at], tuple(sorted({DOCUMENTS[at % 8], DOCUMENTS[(at + 1) % 8]})))
                         for at in range(count))
            self.assertGreater(max(self.check_all(heap, 12, 12)), 1)
        for seed in range(4):
            self.check_all(random_heap(seed, 9 + seed, documents=8, most=2), 6, 6)

    def test_larger_heaps(self):
        for seed in range(4):
            self.check_all(random_heap(seed, 12, documents=6, most=2), 5, 5)

    def test_equal_cuts(self):
        for seed in range(10):
            heap = random_heap(seed, 7, documents=4, most=2)
            for cut in cuts_of(heap):
                self.assertEqual(shortest(heap, cut, cut), ())
        self.assertEqual(shortest((), (), ()), ())

    def test_one_press_where_one_press_leads_there(self):
        count = 0
        for seed in range(12):
            heap = random_heap(seed, 7, documents=4, most=2)
            for cut in cuts_of(heap):
                for document in sorted({document for _, documents in heap for document in documents}):
                    if any(name in cut for name, documents in heap if document in documents):
                        names = undo_set(heap, cut, document)
                        route = shortest(heap, cut, tuple(name for name in cut if name not in names))
                        self.assertEqual((len(route), route[0][0]), (1, "undo"))
                        count += 1
                    if any(name not in cut for name, documents in heap if document in documents):
                        route = shortest(heap, cut, written(cut + redo_set(heap, cut, document)))
                        self.assertEqual((len(route), route[0][0]), (1, "redo"))
                        count += 1
        self.assertGreater(count, 300)

    def test_by_hand(self):
        self.assertEqual(shortest(CHAIN, (), ("x", "y", "z")), (("redo", "c"), ("redo", "c")))
        self.assertEqual(shortest(CHAIN, ("x", "y", "z"), ("x",)), (("undo", "b"),))
        self.assertEqual(len(shortest(CHAIN, ("x",), ("x", "y", "z"))), 2)
        heap = (("x", ("a", "b")), ("y", ("a",)), ("z", ("b",)))
        self.assertEqual(len(shortest(heap, ("x", "y", "z"), ())), 2)
        self.assertEqual(len(shortest(heap, ("x", "y"), ("x", "z"))), 2)

    def test_forty_actions_in_one_list(self):
        names = ACTIONS[:40]
        heap = tuple((name, ("a",)) for name in names)
        self.assertEqual(shortest(heap, tuple(names), ()), (("undo", "a"),) * 40)
        self.assertEqual(shortest(heap, tuple(names[:10]), tuple(names[:13])), (("redo", "a"),) * 3)


class TooManyTest(unittest.TestCase):

    def refuses(self, heap, cut, goal):
        start = time.monotonic()
        with self.assertRaises(TooMany) as caught:
            shortest(heap, cut, goal)
        self.assertEqual(vars(caught.exception), {"limit": 2000})
        self.assertLess(time.monotonic() - start, 20)

    def test_exactly_2000_cuts(self):
        for heap in (chains(4, 4, 4, 1, 1, 1, 1), chains(4, 4, 7, 9)):
            self.assertEqual(len(cuts_of(heap)), 2000)
            names = written(name for name, _ in heap)
            self.assertEqual(shortest(heap, (), ()), ())
            self.assertEqual(shortest(heap, names, names), ())
            self.assertEqual(len(shortest(heap, names, ())), len(heap))
            self.assertEqual(len(shortest(heap, (), names)), len(heap))

    def test_2001_cuts(self):
        heap = chains(4, 4, 7, 9) + (("top", ("a", "b", "c", "d")),)
        names = written(name for name, _ in heap)
        self.refuses(heap, (), names)
        self.refuses(heap, names, ())
        self.refuses(heap, (), ())
        self.refuses(heap, names, names)
        self.refuses(heap, names, written(set(names) - {"top"}))
        self.assertEqual(len(shortest(heap[:-1], (), written(set(names) - {"top"}))), 24)

    def test_forty_unrelated_actions(self):
        names = ACTIONS[:40]
        heap = tuple((name, ("d" + name,)) for name in names)
        self.refuses(heap, (), tuple(names))
        self.refuses(heap, (), ())
        self.refuses(heap, tuple(names), tuple(names))
        self.refuses(heap, (), ("aa",))

    def test_just_enough_unrelated_actions(self):
        names = "abcdefghijk"
        heap = tuple((name, (name,)) for name in names)
        self.refuses(heap, (), ())
        self.assertEqual(len(shortest(heap[:10], (), tuple(names[:10]))), 10)


class CallsTest(unittest.TestCase):

    def test_arguments_by_name_in_another_order(self):
        self.assertEqual(shortest(goal=(), cut=("x", "y", "z"), heap=CHAIN), (("undo", "a"),))
        self.assertEqual(shortest(CHAIN, goal=("x",), cut=()), shortest(CHAIN, (), ("x",)))


if __name__ == "__main__":
    unittest.main()
