"""Heaps: points [3], [4] (a) as far as it speaks of heaps, [8] and [9]."""

import copy
import itertools
import random
import unittest

from crossundo.heaps import down, is_below, is_heap, list_of, normal, same_heap, up
from tests.samples import CHAIN, DOCUMENTS, Hostile, all_small_heaps, many_heaps, nested, normal_by_definition
from tests.samples import other_kinds, pairs_below, random_heap


def same_by_lists(heap, other):
    documents = {document for _, touched in heap + other for document in touched}
    if dict(heap) != dict(other):
        return False
    return all([name for name, touched in heap if document in touched]
               == [name for name, touched in other if document in touched] for document in documents)


def samples_of_names(heap, seed):
    """Return choices of names of the heap: none, each one, all, and some that repeat in any order."""
    names = [name for name, _ in heap]
    choices = [(), tuple(names), tuple(names[::-1])]
    choices.extend((name,) for name in names[:12])
    source = random.Random(seed)
    if names:
        choices.extend(tuple(source.choices(names, k=size)) for size in (2, 2, 3, 5))
    return choices


class IsHeapTest(unittest.TestCase):

    def accepts(self, thing):
        self.assertIs(is_heap(thing), True)

    def refuses(self, thing):
        self.assertIs(is_heap(thing), False)

    def test_how_many_actions(self):
        self.accepts(())
        self.accepts((("x", ("a",)),))
        self.accepts(random_heap(1, 12))
        self.accepts(random_heap(1, 40))
        for heap in many_heaps():
            self.accepts(heap)

    def test_a_name_twice(self):
        self.refuses((("x", ("a",)), ("x", ("a",))))
        self.refuses((("x", ("a",)), ("x", ("b",))))
        for size in (2, 12, 40):
            heap = random_heap(2, size)
            for at in range(1, size):
                self.refuses(heap[:at] + ((heap[0][0], heap[at][1]),) + heap[at + 1:])
            self.refuses(heap + heap[-1:])

    def test_how_many_documents(self):
        for count in range(9):
            self.assertIs(is_heap((("x", DOCUMENTS[:count]),)), 1 <= count <= 4, count)

    def test_documents_reversed_or_doubled(self):
        for documents in (("b", "a"), ("a", "a"), ("a", "b", "b"), ("a", "c", "b"), ("c", "b", "a"), ("a", "b", "a"),
                          ("aa", "a"), ("a", "b", "d", "c"), ("b", "a", "c", "d"), ("a", "b", "c", "c")):
            self.refuses((("x", documents),))
            self.refuses(CHAIN + (("w", documents),))
            self.refuses((("w", documents),) + CHAIN)
        self.accepts((("x", ("a", "aa", "ab", "b")),))

    def test_wrong_names(self):
        for name in ("", "abcdefghi", "A", "x1", "x\n", " x", "\u00e9", *other_kinds()):
            self.refuses(((name, ("a",)),))
            self.refuses((("x", (name,)),))
            self.refuses((("x", ("a", name)),))
            self.refuses(CHAIN + ((name, ("a",)),))

    def test_a_list_in_the_place_of_a_tuple(self):
        self.refuses(list(CHAIN))
        self.refuses((["x", ("a",)],))
        self.refuses((("x", ["a"]),))
        self.refuses(CHAIN + (["w", ("a",)],))
        self.refuses(([],))

    def test_other_forms(self):
        self.refuses((("x",),))
        self.refuses((("x", ("a",), ()),))
        self.refuses(("x", ("a",)))
        self.refuses((("x", "a"),))
        self.refuses((("x", {"a": 1}),))
        self.refuses((("x", {"a"}),))
        self.refuses({"x": ("a",)})
        self.refuses("xa")
        self.refuses(("xa",))
        self.refuses("")
        self.refuses(CHAIN + (None,))
        self.refuses((None,) + CHAIN)

    def test_other_kinds(self):
        for thing in other_kinds():
            self.refuses(thing)
            self.refuses((thing,))
            self.refuses(CHAIN + (thing,))
            if not isinstance(thing, tuple):
                self.refuses((("x", thing),))
        for documents in ((None,), ("a", ["b"]), ((),), (("a",),), (Hostile(),), ("a", Hostile()), (0,), (True,)):
            self.refuses((("x", documents),))

    def test_deep_objects(self):
        for kind in (tuple, list):
            self.refuses(nested(kind))
            self.refuses((("x", nested(kind, 28)),))

    def test_nothing_is_changed(self):
        for thing in ([["x", ["a"]]], {"x": ["a"]}, (["x", ["a"]],), (("x", ["b", "a"]),), [("x", ("a",))]):
            before = copy.deepcopy(thing)
            self.refuses(thing)
            self.assertEqual(thing, before)
        letters = iter("abc")
        self.refuses(letters)
        self.refuses((letters,))
        self.assertEqual(list(letters), ["a", "b", "c"])


class OrderTest(unittest.TestCase):

    def check_up_and_down(self, heap, names, pairs):
        order = [name for name, _ in heap]
        above = tuple(x for x in order if x in names or any((y, x) in pairs for y in names))
        below = tuple(x for x in order if x in names or any((x, y) in pairs for y in names))
        self.assertEqual(up(heap, names), above)
        self.assertEqual(down(heap, names), below)

    def test_all_small_heaps(self):
        for heap in all_small_heaps():
            pairs = pairs_below(heap)
            order = [name for name, _ in heap]
            for x in order:
                self.check_up_and_down(heap, (x,), pairs)
                for y in order:
                    self.assertIs(is_below(heap, x, y), (x, y) in pairs)

    def test_many_heaps(self):
        for seed, heap in enumerate(many_heaps()):
            pairs = pairs_below(heap)
            for names in samples_of_names(heap, seed):
                self.check_up_and_down(heap, names, pairs)

    def test_is_below_in_many_heaps(self):
        for heap in many_heaps():
            pairs = pairs_below(heap)
            for x, y in itertools.product([name for name, _ in heap], repeat=2):
                self.assertIs(is_below(heap, x, y), (x, y) in pairs)

    def test_list_of_in_many_heaps(self):
        for heap in many_heaps():
            for document in DOCUMENTS + ("unknown",):
                self.assertEqual(list_of(heap, document), tuple(n for n, touched in heap if document in touched))

    def test_a_chain_across_documents(self):
        self.assertEqual(up(CHAIN, ("x",)), ("x", "y", "z"))
        self.assertEqual(up(CHAIN, ("z",)), ("z",))
        self.assertEqual(down(CHAIN, ("y",)), ("x", "y"))
        self.assertEqual(down(CHAIN, ("x",)), ("x",))
        self.assertIs(is_below(CHAIN, "x", "z"), True)
        self.assertIs(is_below(CHAIN, "z", "x"), False)

    def test_a_long_chain(self):
        heap = tuple((chr(97 + at // 8) + "abcdefgh"[at % 8], tuple(sorted({DOCUMENTS[at % 8], DOCUMENTS[(at + 1) % 8]})))
                     for at in range(40))
        names = tuple(name for name, _ in heap)
        self.assertIs(is_heap(heap), True)
        self.assertEqual(up(heap, names[:1]), names)
        self.assertEqual(down(heap, names[-1:]), names)
        self.assertIs(is_below(heap, names[0], names[-1]), True)
        self.assertIs(is_below(heap, names[-1], names[0]), False)

    def test_a_chain_needs_its_order(self):
        heap = (("y", ("b", "c")), ("x", ("a", "b")), ("z", ("c",)))
        self.assertIs(is_below(heap, "x", "z"), False)
        self.assertIs(is_below(heap, "y", "z"), True)
        self.assertEqual(up(heap, ("x",)), ("x",))
        self.assertEqual(down(heap, ("z",)), ("y", "z"))

    def test_unrelated_actions(self):
        heap = tuple((name, (document,)) for name, document in zip("stuvwxyz", DOCUMENTS))
        for x, y in itertools.product("stuvwxyz", repeat=2):
            self.assertIs(is_below(heap, x, y), False)
        for name in "stuvwxyz":
            self.assertEqual(up(heap, (name,)), (name,))
            self.assertEqual(down(heap, (name,)), (name,))

    def test_no_action_lies_below_itself(self):
        for heap in many_heaps():
            for name, _ in heap:
                self.assertIs(is_below(heap, name, name), False)

    def test_names_repeat_in_any_order(self):
        heap = (("z", ("a",)), ("y", ("b",)), ("x", ("c",)), ("w", ("a", "d")))
        self.assertEqual(up(heap, ("x", "z", "x", "z", "z")), ("z", "x", "w"))
        self.assertEqual(down(heap, ("w", "x", "w", "x")), ("z", "x", "w"))
        for names in itertools.permutations(("x", "y", "z")):
            self.assertEqual(up(heap, names), ("z", "y", "x", "w"))
            self.assertEqual(down(heap, names), ("z", "y", "x"))

    def test_no_names(self):
        for heap in ((), CHAIN, random_heap(3, 40)):
            self.assertEqual(up(heap, ()), ())
            self.assertEqual(down(heap, ()), ())

    def test_an_unknown_document(self):
        self.assertEqual(list_of(CHAIN, "d"), ())
        self.assertEqual(list_of(CHAIN, "ab"), ())
        self.assertEqual(list_of((), "a"), ())

    def test_documents_with_a_common_beginning(self):
        heap = (("x", ("a",)), ("y", ("ab",)), ("z", ("a", "ab")))
        self.assertEqual(list_of(heap, "a"), ("x", "z"))
        self.assertEqual(list_of(heap, "ab"), ("y", "z"))
        self.assertIs(is_below(heap, "x", "y"), False)

    def test_what_lies_below_begins_each_list(self):
        """A set that contains all below its members begins the list of each document, what is above ends it."""
        for seed, heap in enumerate(many_heaps()):
            for names in samples_of_names(heap, seed):
                done = down(heap, names)
                taken = up(heap, names)
                for document in DOCUMENTS:
                    names_of = list_of(heap, document)
                    first = tuple(name for name in names_of if name in done)
                    last = tuple(name for name in names_of if name in taken)
                    self.assertEqual(first, names_of[:len(first)])
                    self.assertEqual(last, names_of[len(names_of) - len(last):])


class NormalTest(unittest.TestCase):

    def test_none_and_one(self):
        self.assertEqual(normal(()), ())
        self.assertEqual(normal(CHAIN[:1]), CHAIN[:1])

    def test_related_actions_keep_their_order(self):
        heap = (("z", ("a",)), ("y", ("a",)), ("x", ("a",)))
        self.assertEqual(normal(heap), heap)

    def test_unrelated_actions_are_sorted(self):
        heap = (("z", ("a",)), ("b", ("b",)), ("aa", ("c",)), ("a", ("d",)))
        self.assertEqual(normal(heap), (("a", ("d",)), ("aa", ("c",)), ("b", ("b",)), ("z", ("a",))))

    def test_the_least_is_chosen_again_and_again(self):
        heap = (("m", ("a",)), ("b", ("a",)), ("n", ("b",)), ("a", ("b",)))
        self.assertEqual(normal(heap), (("m", ("a",)), ("b", ("a",)), ("n", ("b",)), ("a", ("b",))))
        heap = (("n", ("b",)), ("a", ("b",)), ("m", ("a",)), ("z", ("a",)))
        self.assertEqual(normal(heap), (("m", ("a",)), ("n", ("b",)), ("a", ("b",)), ("z", ("a",))))

    def test_all_small_heaps(self):
        for heap in all_small_heaps():
            self.assertEqual(normal(heap), normal_by_definition(heap))

    def test_many_heaps(self):
        for heap in many_heaps():
            result = normal(heap)
            self.assertEqual(result, normal_by_definition(heap))
            self.assertEqual(normal(result), result)
            self.assertIs(is_heap(result), True)
            self.assertIs(same_heap(heap, result), True)


class SameHeapTest(unittest.TestCase):

    def check(self, heap, other, same):
        self.assertIs(same_heap(heap, other), same, (heap, other))
        self.assertIs(same_heap(other, heap), same, (heap, other))
        self.assertIs(normal(heap) == normal(other), same, (heap, other))

    def test_neighbours_exchanged(self):
        counts = {True: 0, False: 0}
        for heap in many_heaps():
            self.check(heap, heap, True)
            for at in range(len(heap) - 1):
                first, second = heap[at], heap[at + 1]
                unrelated = not set(first[1]) & set(second[1])
                self.check(heap, heap[:at] + (second, first) + heap[at + 2:], unrelated)
                counts[unrelated] += 1
        self.assertGreater(min(counts.values()), 100)

    def test_many_exchanges(self):
        source = random.Random(5)
        for heap in many_heaps():
            other = list(heap)
            for _ in range(200):
                at = source.randrange(len(other)) if other else 0
                pair = other[at:at + 2]
                if len(pair) == 2 and not set(pair[0][1]) & set(pair[1][1]):
                    other[at:at + 2] = pair[::-1]
            self.check(heap, tuple(other), True)

    def test_all_small_heaps(self):
        heaps = [heap for heap in all_small_heaps() if len(heap) < 3]
        for heap, other in itertools.product(heaps, repeat=2):
            self.assertIs(same_heap(heap, other), same_by_lists(heap, other), (heap, other))

    def test_all_orders_of_a_small_heap(self):
        for seed in range(40):
            heap = random_heap(seed, 4, documents=4, most=2)
            for other in itertools.permutations(heap):
                self.check(heap, other, same_by_lists(heap, other))

    def test_an_action_fewer(self):
        for heap in many_heaps():
            for at in range(len(heap)):
                self.check(heap, heap[:at] + heap[at + 1:], False)

    def test_other_documents(self):
        for heap in many_heaps():
            for at in range(min(len(heap), 12)):
                name, documents = heap[at]
                for changed in (documents[1:], documents[:-1], ("other",), tuple(sorted(documents[1:] + ("other",)))):
                    if changed:
                        self.check(heap, heap[:at] + ((name, changed),) + heap[at + 1:], False)

    def test_another_action(self):
        for heap in many_heaps():
            for at in range(min(len(heap), 12)):
                self.check(heap, heap[:at] + (("another", heap[at][1]),) + heap[at + 1:], False)

    def test_the_empty_heap(self):
        self.check((), (), True)
        self.check((), CHAIN, False)


class CallsTest(unittest.TestCase):

    def test_arguments_by_name_in_another_order(self):
        self.assertIs(is_heap(thing=CHAIN), True)
        self.assertEqual(up(names=("y",), heap=CHAIN), ("y", "z"))
        self.assertEqual(down(names=("y",), heap=CHAIN), ("x", "y"))
        self.assertIs(is_below(other="z", name="x", heap=CHAIN), True)
        self.assertIs(is_below(name="z", other="x", heap=CHAIN), False)
        self.assertEqual(list_of(document="b", heap=CHAIN), ("x", "y"))
        self.assertEqual(normal(heap=CHAIN), CHAIN)
        self.assertIs(same_heap(other=CHAIN, heap=CHAIN), True)
        self.assertIs(same_heap(other=CHAIN, heap=()), False)

    def test_only_tuples_and_strings_are_returned(self):
        heap = random_heap(6, 12)
        for result in (up(heap, (heap[0][0],)), down(heap, (heap[-1][0],)), list_of(heap, "a")):
            self.assertIs(type(result), tuple)
            self.assertEqual({type(name) for name in result}, {str})
        result = normal(heap)
        self.assertIs(type(result), tuple)
        self.assertEqual({type(action) for action in result}, {tuple})
        self.assertEqual({type(documents) for _, documents in result}, {tuple})

    def test_no_argument_is_changed(self):
        heap = random_heap(7, 12)
        names = (heap[3][0], heap[1][0])
        before = repr((heap, names))
        up(heap, names)
        down(heap, names)
        is_below(heap, names[0], names[1])
        list_of(heap, "a")
        normal(heap)
        same_heap(heap, heap[::-1])
        self.assertEqual(repr((heap, names)), before)

    def test_the_same_call_returns_the_same(self):
        heap = random_heap(8, 40)
        first = (up(heap, (heap[0][0],)), down(heap, (heap[39][0],)), normal(heap), list_of(heap, "a"))
        again = (up(heap, (heap[0][0],)), down(heap, (heap[39][0],)), normal(heap), list_of(heap, "a"))
        self.assertEqual(first, again)


if __name__ == "__main__":
    unittest.main()
