"""Objects and heaps that several tests use."""

import random
import string

DOCUMENTS = ("a", "b", "c", "d", "e", "f", "g", "h")


class Hostile:
    """An object that fails at whatever it is asked."""

    def fail(self, *told):
        raise RuntimeError("asked")

    __eq__ = __ne__ = __lt__ = __le__ = __gt__ = __ge__ = fail
    __len__ = __iter__ = __bool__ = __hash__ = __repr__ = __str__ = fail
    __getitem__ = __contains__ = __int__ = __index__ = __call__ = fail


def nested(kind, depth=30):
    """Return a tuple or list in which another one lies, and so on."""
    thing = kind()
    for _ in range(depth - 1):
        thing = kind([thing])
    return thing


def other_kinds():
    """Return objects that are no strings, no heaps, and no edits."""
    return [
        True, False, None, 0, 1, -1, 10 ** 5000, 1j, Ellipsis, NotImplemented,
        b"", b"a", bytearray(b"a"), memoryview(b"a"), range(1), slice(1),
        [], ["a"], [["a"]], ("a",), (("a",),), ("a", "b"), ("a", ["b"]), (None,), ((),), ([],), ({},),
        {}, {"a": "b"}, set(), {"a"}, frozenset(), frozenset("a"),
        object(), Hostile(), (Hostile(),), ("a", Hostile()), str, len, lambda: "a", ValueError("a"),
        nested(tuple), nested(list), iter("a"), ("a" for _ in "a"),
    ]


def random_heap(seed, actions, documents=8, most=4):
    """Return a heap whose names do not ascend; the same for the same arguments."""
    source = random.Random(seed)
    names = [first + second for first in string.ascii_lowercase for second in "xyz"]
    heap = []
    for name in source.sample(names, actions):
        touched = source.sample(DOCUMENTS[:documents], source.randint(1, min(most, documents)))
        heap.append((name, tuple(sorted(touched))))
    return tuple(heap)


def many_heaps():
    """Return heaps of all sizes up to the limits: sparse, dense, and with few documents."""
    heaps = [()]
    for seed in range(60):
        heaps.append(random_heap(seed, seed % 8 + 1, documents=3))
        heaps.append(random_heap(seed, 12, documents=8, most=2))
        heaps.append(random_heap(seed, 7, documents=6, most=2))
    for seed in range(4):
        heaps.append(random_heap(seed, 40, documents=8, most=1))
        heaps.append(random_heap(seed, 40, documents=8, most=2))
        heaps.append(random_heap(seed, 40, documents=8, most=4))
    return heaps
