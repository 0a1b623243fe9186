"""Cuts: points [3], [10], [11] and [12], and guarantee (b) of point [4]."""

import itertools
import random
import time
import unittest

from crossundo.cuts import cuts_of, independent, is_cut, presses_to, redo_set, undo_set
from crossundo.errors import NothingToRedo, NothingToUndo, TooMany
from tests.samples import ACTIONS, CHAIN, DOCUMENTS, all_small_heaps, chains, cuts_by_definition, is_plain, many_heaps
from tests.samples import no_names, normal_by_definition, other_kinds, pairs_below, random_heap, told


def small_heaps():
    """Return heaps whose cuts can all be looked at: all of up to two actions, some of three, drawn ones of five."""
    heaps = list(all_small_heaps())
    heaps = [heap for heap in heaps if len(heap) < 3] + [heap for heap in heaps if len(heap) == 3][::9]
    heaps.extend(random_heap(seed, 5, documents=4, most=2) for seed in range(30))
    heaps.extend(random_heap(seed, 6, documents=5, most=3) for seed in range(10))
    return heaps


def drawn_cut(heap, source, pairs):
    """Return a cut of the heap: some actions, and all below them."""
    chosen = {name for name, _ in heap if source.random() < source.choice((0.05, 0.2, 0.6))}
    return tuple(sorted(chosen | {x for x, y in pairs if y in chosen}))


def drawn_cuts():
    """Yield heaps with their pairs and a cut: the empty one, all actions, and others between."""
    for seed, heap in enumerate(many_heaps()):
        source = random.Random(seed)
        pairs = pairs_below(heap)
        yield heap, pairs, ()
        yield heap, pairs, tuple(sorted(name for name, _ in heap))
        for _ in range(3):
            yield heap, pairs, drawn_cut(heap, source, pairs)


def after(heap, cut, press):
    """Return the names that a press changes, and the cut that it leads to."""
    kind, document = press
    if kind == "undo":
        names = undo_set(heap, cut, document)
        return names, tuple(name for name in cut if name not in names)
    names = redo_set(heap, cut, document)
    return names, tuple(sorted(cut + names))


class IsCutTest(unittest.TestCase):

    def check(self, heap, pairs, names):
        """Compare with the words of the definition, for a tuple of names."""
        known = {name for name, _ in heap}
        closed = all(x in names for x, y in pairs if y in names)
        expected = closed and names == tuple(sorted(set(names))) and set(names) <= known
        self.assertIs(is_cut(heap, names), expected, (heap, names))
        return expected

    def test_drawn_cuts(self):
        for heap, _, cut in drawn_cuts():
            self.assertIs(is_cut(heap, cut), True, (heap, cut))

    def test_a_name_left_out_doubled_or_put_in(self):
        found = []
        for heap, pairs, cut in drawn_cuts():
            for at in range(min(len(cut), 12)):
                found.append(self.check(heap, pairs, cut[:at] + cut[at + 1:]))
                self.assertIs(is_cut(heap, cut[:at] + cut[at:at + 1] + cut[at:]), False)
                self.assertIs(is_cut(heap, cut[:at] + ("unknown",) + cut[at + 1:]), False)
            for name in [name for name, _ in heap if name not in cut][:12]:
                found.append(self.check(heap, pairs, tuple(sorted(cut + (name,)))))
            self.assertIs(is_cut(heap, tuple(sorted(cut + ("unknown",)))), False)
        self.assertGreater(found.count(True), 500)
        self.assertGreater(found.count(False), 500)

    def test_names_exchanged(self):
        for heap, _, cut in drawn_cuts():
            for at in range(len(cut) - 1):
                changed = cut[:at] + (cut[at + 1], cut[at]) + cut[at + 2:]
                self.assertIs(is_cut(heap, changed), False)

    def test_a_name_replaced_by_another_object(self):
        for thing in no_names():
            for heap, cut in ((CHAIN, ("x", "y")), (random_heap(1, 12), (random_heap(1, 12)[0][0],))):
                for at in range(len(cut)):
                    self.assertIs(is_cut(heap, cut[:at] + (thing,) + cut[at + 1:]), False)
                self.assertIs(is_cut(heap, cut + (thing,)), False)
                self.assertIs(is_cut(heap, (thing,)), False)

    def test_a_list_in_the_place_of_the_tuple(self):
        for heap, _, cut in drawn_cuts():
            for thing in (list(cut), set(cut), frozenset(cut), dict.fromkeys(cut), iter(cut), (cut,), [cut]):
                self.assertIs(is_cut(heap, thing), False)
            if cut:
                self.assertIs(is_cut(heap, (list(cut),)), False)
                self.assertIs(is_cut(heap, (cut[:1], *cut[1:])), False)

    def test_other_kinds(self):
        for thing in (*other_kinds(), "", "x", "xy", ("x", 0), (b"x",)):
            for heap in ((), CHAIN):
                self.assertIs(is_cut(heap, thing), False)

    def test_the_empty_tuple_and_all_names(self):
        for heap in many_heaps():
            self.assertIs(is_cut(heap, ()), True)
            self.assertIs(is_cut(heap, tuple(sorted(name for name, _ in heap))), True)

    def test_all_sets_of_names_of_small_heaps(self):
        for heap in small_heaps():
            cuts = cuts_by_definition(heap)
            names = sorted(name for name, _ in heap)
            for size in range(len(names) + 1):
                for chosen in itertools.combinations(names, size):
                    self.assertIs(is_cut(heap, chosen), frozenset(chosen) in cuts)

    def test_the_heap_in_any_order_of_unrelated_actions(self):
        heap = (("z", ("a",)), ("y", ("b",)), ("x", ("b", "c")))
        for cut in ((), ("y",), ("z",), ("y", "z"), ("x", "y"), ("x", "y", "z")):
            self.assertIs(is_cut(heap, cut), True)
        for cut in (("x",), ("x", "z"), ("z", "y"), ("y", "x")):
            self.assertIs(is_cut(heap, cut), False)


class UndoRedoSetTest(unittest.TestCase):

    def check_undo(self, heap, pairs, cut, document):
        done = [name for name, touched in heap if document in touched and name in cut]
        if not done:
            with self.assertRaises(NothingToUndo) as caught:
                undo_set(heap, cut, document)
            self.assertEqual(vars(caught.exception), {"document": document})
            return
        taken = {name for name in cut if name == done[-1] or (done[-1], name) in pairs}
        order = [name for name, _ in normal_by_definition(heap)]
        self.assertEqual(undo_set(heap, cut, document), tuple(name for name in order[::-1] if name in taken))

    def check_redo(self, heap, pairs, cut, document):
        undone = [name for name, touched in heap if document in touched and name not in cut]
        if not undone:
            with self.assertRaises(NothingToRedo) as caught:
                redo_set(heap, cut, document)
            self.assertEqual(vars(caught.exception), {"document": document})
            return
        back = {name for name, _ in heap if name not in cut and (name == undone[0] or (name, undone[0]) in pairs)}
        order = [name for name, _ in normal_by_definition(heap)]
        self.assertEqual(redo_set(heap, cut, document), tuple(name for name in order if name in back))

    def test_drawn_cuts(self):
        for heap, pairs, cut in itertools.islice(drawn_cuts(), 0, None, 2):
            for document in (*DOCUMENTS, "unknown"):
                self.check_undo(heap, pairs, cut, document)
                self.check_redo(heap, pairs, cut, document)

    def test_a_chain_across_documents(self):
        everything = ("x", "y", "z")
        self.assertEqual(undo_set(CHAIN, everything, "b"), ("z", "y"))
        self.assertEqual(undo_set(CHAIN, everything, "c"), ("z",))
        self.assertEqual(undo_set(CHAIN, ("x", "y"), "a"), ("y", "x"))
        self.assertEqual(redo_set(CHAIN, (), "a"), ("x",))
        self.assertEqual(redo_set(CHAIN, ("x", "y"), "c"), ("z",))
        self.assertEqual(redo_set(CHAIN, ("x",), "b"), ("y",))

    def test_unrelated_actions_are_left_alone(self):
        heap = tuple((name, (document,)) for name, document in zip("stuvwxyz", DOCUMENTS))
        everything = tuple("stuvwxyz")
        for name, (document,) in heap:
            self.assertEqual(undo_set(heap, everything, document), (name,))
            self.assertEqual(redo_set(heap, (), document), (name,))

    def test_the_order_is_that_of_the_whole_heap(self):
        # Without z, c would come before e: the names that are told do not tell their order by themselves.
        heap = (("m", ("p", "q", "s")), ("e", ("p",)), ("z", ("r",)), ("c", ("q", "r")), ("k", ("p", "q", "t")))
        self.assertEqual([name for name, _ in normal_by_definition(heap)], ["m", "e", "z", "c", "k"])
        self.assertEqual(undo_set(heap, ("c", "e", "m", "z"), "s"), ("c", "e", "m"))
        self.assertEqual(redo_set(heap, ("z",), "t"), ("m", "e", "c", "k"))
        for order in ((2, 0, 3, 1, 4), (0, 2, 3, 1, 4), (2, 0, 1, 3, 4)):
            other = tuple(heap[at] for at in order)
            self.assertEqual(undo_set(other, ("c", "e", "m", "z"), "s"), ("c", "e", "m"))
            self.assertEqual(redo_set(other, ("z",), "t"), ("m", "e", "c", "k"))

    def test_the_empty_cut_and_all_actions(self):
        for heap in many_heaps():
            everything = tuple(sorted(name for name, _ in heap))
            for document in DOCUMENTS:
                self.assertEqual(told(undo_set, heap, (), document), ("NothingToUndo", document))
                self.assertEqual(told(redo_set, heap, everything, document), ("NothingToRedo", document))

    def test_a_document_that_no_action_touches(self):
        for cut in ((), ("x",), ("x", "y", "z")):
            self.assertEqual(told(undo_set, CHAIN, cut, "d"), ("NothingToUndo", "d"))
            self.assertEqual(told(redo_set, CHAIN, cut, "d"), ("NothingToRedo", "d"))
        self.assertEqual(told(undo_set, (), (), "a"), ("NothingToUndo", "a"))
        self.assertEqual(told(redo_set, (), (), "a"), ("NothingToRedo", "a"))


class FewestTest(unittest.TestCase):
    """Guarantee (b)."""

    def test_undo_leaves_the_greatest_cut_without_the_last_done_action(self):
        for heap in small_heaps():
            cuts = cuts_by_definition(heap)
            for cut, document in itertools.product(cuts, "abcde"):
                done = [name for name, touched in heap if document in touched and name in cut]
                if done:
                    left = cut - set(undo_set(heap, tuple(sorted(cut)), document))
                    within = [other for other in cuts if other <= cut and done[-1] not in other]
                    self.assertIn(left, within)
                    self.assertTrue(all(other <= left for other in within))

    def test_redo_leaves_the_least_cut_with_the_first_undone_action(self):
        for heap in small_heaps():
            cuts = cuts_by_definition(heap)
            for cut, document in itertools.product(cuts, "abcde"):
                undone = [name for name, touched in heap if document in touched and name not in cut]
                if undone:
                    left = cut | set(redo_set(heap, tuple(sorted(cut)), document))
                    around = [other for other in cuts if other >= cut and undone[0] in other]
                    self.assertIn(left, around)
                    self.assertTrue(all(other >= left for other in around))

    def test_every_cut_can_be_reached(self):
        for heap in small_heaps():
            reached = {()}
            waiting = [()]
            while waiting:
                cut = waiting.pop()
                for press in itertools.product(("undo", "redo"), "abcde"):
                    try:
                        _, left = after(heap, cut, press)
                    except (NothingToUndo, NothingToRedo):
                        continue
                    if left not in reached:
                        reached.add(left)
                        waiting.append(left)
            self.assertEqual(reached, set(cuts_of(heap)))


class CutsOfTest(unittest.TestCase):

    def test_all_sets_of_names_of_small_heaps(self):
        for heap in (*all_small_heaps(), *small_heaps()):
            expected = tuple(sorted(tuple(sorted(cut)) for cut in cuts_by_definition(heap)))
            self.assertEqual(cuts_of(heap), expected)

    def test_none_and_one(self):
        self.assertEqual(cuts_of(()), ((),))
        self.assertEqual(cuts_of((("x", ("a",)),)), ((), ("x",)))

    def test_each_is_a_cut_and_they_ascend(self):
        for seed in range(20):
            heap = random_heap(seed, 14, documents=4, most=3)
            cuts = cuts_of(heap)
            self.assertEqual(cuts, tuple(sorted(set(cuts))))
            self.assertTrue(all(is_cut(heap, cut) for cut in cuts))

    def test_exactly_2000(self):
        for lengths in ((1, 1, 1, 1, 4, 4, 4), (9, 9, 19), (4, 4, 4, 15), (19, 9, 9), (1, 4, 1, 4, 1, 4, 1)):
            cuts = cuts_of(chains(*lengths))
            self.assertEqual(len(cuts), 2000)
            self.assertEqual(cuts, tuple(sorted(set(cuts))))

    def test_2001(self):
        heap = chains(9, 9, 19)
        bottom = (("bottom", ("a", "b", "c")),)
        top = (("top", ("a", "b", "c")),)
        for more in (heap + top, bottom + heap):
            self.assertEqual(told(cuts_of, more), ("TooMany", 2000))
        self.assertEqual(len(cuts_of(chains(9, 9, 18) + top)), 1901)

    def test_more_than_2001(self):
        for heap in (chains(9, 9, 20), chains(*[4] * 8), chains(*[5] * 8), chains(20, 10, 10), chains(*[1] * 7, 15)):
            with self.assertRaises(TooMany) as caught:
                cuts_of(heap)
            self.assertEqual(vars(caught.exception), {"limit": 2000})

    def test_forty_unrelated_actions_are_soon_refused(self):
        heap = tuple((name, (name,)) for name in ACTIONS[:40])
        start = time.process_time()
        self.assertEqual(told(cuts_of, heap), ("TooMany", 2000))
        self.assertEqual(told(cuts_of, heap[::-1]), ("TooMany", 2000))
        late = chains(29) + tuple((name, (name,)) for name in ACTIONS[50:61])
        self.assertEqual(told(cuts_of, late), ("TooMany", 2000))
        self.assertLess(time.process_time() - start, 10)

    def test_forty_actions_with_few_cuts(self):
        heap = chains(40)
        order = [name for name, _ in heap]
        self.assertEqual(cuts_of(heap), tuple(tuple(order[:count]) for count in range(41)))
        falling = tuple((name, ("a",)) for name in order[::-1])
        self.assertEqual(set(cuts_of(falling)), {tuple(order[40 - count:]) for count in range(41)})


class PressesToTest(unittest.TestCase):

    def check(self, heap, cut, goal):
        order = normal_by_definition(heap)
        less = [action for action in order[::-1] if action[0] in cut and action[0] not in goal]
        more = [action for action in order if action[0] in goal and action[0] not in cut]
        presses = presses_to(heap, cut, goal)
        self.assertEqual(presses, tuple([("undo", touched[0]) for _, touched in less]
                                        + [("redo", touched[0]) for _, touched in more]))
        here = cut
        for press, (name, _) in zip(presses, less + more):
            names, here = after(heap, here, press)
            self.assertEqual(names, (name,))
        self.assertEqual(here, goal)

    def test_all_pairs_of_cuts_of_small_heaps(self):
        for heap in small_heaps():
            cuts = cuts_of(heap)
            for cut, goal in list(itertools.product(cuts, repeat=2))[::1 if len(cuts) < 9 else 7]:
                self.check(heap, cut, goal)

    def test_drawn_cuts(self):
        for heap, pairs, cut in drawn_cuts():
            goal = drawn_cut(heap, random.Random(len(cut)), pairs)
            self.check(heap, cut, goal)

    def test_from_a_cut_to_itself(self):
        for heap, _, cut in drawn_cuts():
            self.assertEqual(presses_to(heap, cut, cut), ())


def independent_by_orders(heap, cut, press, other):
    """Do both presses in both orders and compare what each of them changes."""
    try:
        first, between = after(heap, cut, press)
        second, _ = after(heap, between, other)
        second_alone, between = after(heap, cut, other)
        first_after, _ = after(heap, between, press)
    except (NothingToUndo, NothingToRedo):
        return False
    return press != other and set(first) == set(first_after) and set(second) == set(second_alone)


class IndependentTest(unittest.TestCase):

    def test_all_pairs_of_presses_of_small_heaps(self):
        found = []
        for heap in small_heaps()[::2]:
            documents = sorted({document for _, touched in heap for document in touched} | {"none"})
            presses = list(itertools.product(("undo", "redo"), documents))
            for cut in cuts_of(heap)[::1 if len(heap) < 5 else 3]:
                for press, other in itertools.combinations_with_replacement(presses, 2):
                    expected = independent_by_orders(heap, cut, press, other)
                    self.assertIs(independent(heap, cut, press, other), expected, (heap, cut, press, other))
                    self.assertIs(independent(heap, cut, other, press), expected, (heap, cut, press, other))
                    found.append(expected)
        self.assertGreater(found.count(True), 500)
        self.assertGreater(found.count(False), 500)

    def test_exactly_if_no_document_is_shared(self):
        for heap, _, cut in itertools.islice(drawn_cuts(), 0, None, 5):
            touched = dict(heap)
            changed = {}
            for press in itertools.product(("undo", "redo"), DOCUMENTS):
                try:
                    changed[press] = {document for name in after(heap, cut, press)[0] for document in touched[name]}
                except (NothingToUndo, NothingToRedo):
                    pass
            for press, other in itertools.product(changed, repeat=2):
                self.assertIs(independent(heap, cut, press, other), not changed[press] & changed[other])

    def test_equal_presses(self):
        for cut, press in ((("x", "y", "z"), ("undo", "a")), ((), ("redo", "a")), ((), ("undo", "a"))):
            self.assertIs(independent(CHAIN, cut, press, press), False)

    def test_a_press_that_cannot_be_done(self):
        heap = (("x", ("a",)), ("y", ("b",)))
        self.assertIs(independent(heap, ("x", "y"), ("undo", "a"), ("undo", "b")), True)
        self.assertIs(independent(heap, ("x",), ("undo", "a"), ("redo", "b")), True)
        for cut, press, other in ((("x",), ("undo", "a"), ("undo", "b")), (("x",), ("redo", "a"), ("redo", "b")),
                                  (("x", "y"), ("undo", "a"), ("undo", "c")), ((), ("undo", "a"), ("undo", "b")),
                                  ((), ("redo", "a"), ("redo", "c")), (("x", "y"), ("undo", "a"), ("redo", "b"))):
            self.assertIs(independent(heap, cut, press, other), False)
            self.assertIs(independent(heap, cut, other, press), False)

    def test_undo_and_redo_in_one_document(self):
        heap = (("x", ("a",)), ("y", ("a",)))
        self.assertIs(independent(heap, ("x",), ("undo", "a"), ("redo", "a")), False)


class CallsTest(unittest.TestCase):

    def test_arguments_by_name_in_another_order(self):
        self.assertIs(is_cut(thing=("x",), heap=CHAIN), True)
        self.assertEqual(undo_set(document="b", cut=("x", "y"), heap=CHAIN), ("y",))
        self.assertEqual(redo_set(document="b", cut=("x",), heap=CHAIN), ("y",))
        self.assertEqual(cuts_of(heap=CHAIN), ((), ("x",), ("x", "y"), ("x", "y", "z")))
        self.assertEqual(presses_to(goal=("x",), cut=(), heap=CHAIN), (("redo", "a"),))
        self.assertIs(independent(other=("redo", "c"), press=("undo", "b"), cut=("x",), heap=CHAIN), False)

    def test_kinds_of_values_and_nothing_changed(self):
        for heap, _, cut in itertools.islice(drawn_cuts(), 0, None, 9):
            before = repr((heap, cut))
            results = [told(undo_set, heap, cut, "a"), told(redo_set, heap, cut, "a"), presses_to(heap, cut, ()),
                       told(cuts_of, heap), independent(heap, cut, ("undo", "a"), ("redo", "b")), is_cut(heap, cut)]
            self.assertTrue(is_plain(tuple(results)))
            self.assertEqual(repr((heap, cut)), before)
            self.assertEqual(told(undo_set, heap, cut, "a"), results[0])
            self.assertEqual(presses_to(heap, cut, ()), results[2])
            self.assertEqual(told(cuts_of, heap), results[3])


if __name__ == "__main__":
    unittest.main()
