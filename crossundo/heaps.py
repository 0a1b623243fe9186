"""Heaps: actions in their order, related by the documents that they share."""

from crossundo.edits import MOST_DOCUMENTS, is_name, is_names, is_pair


def is_heap(thing):
    """Return whether any object is a heap: a tuple of actions with different names."""
    if not isinstance(thing, tuple) or not all(is_action(part) for part in thing):
        return False
    return len(set([name for name, documents in thing])) == len(thing)


def is_action(thing):
    """Return whether any object is a pair of a name and the documents that the action touches."""
    return is_pair(thing) and is_name(thing[0]) and is_touched(thing[1])


def is_touched(thing):
    """Return whether any object is an ascending tuple of 1 to 4 names."""
    return is_names(thing) and 1 <= len(thing) <= MOST_DOCUMENTS


def up(heap, names):
    """Return the names of these actions and of all actions above one of them, in the order of the heap."""
    return tuple(reach(heap, names))


def down(heap, names):
    """Return the names of these actions and of all actions below one of them, in the order of the heap."""
    return tuple(reach(heap[::-1], names)[::-1])


def reach(actions, names):
    """Return the names of these actions and of those that follow one of them, in the order given."""
    reached = []
    found = []
    for name, documents in actions:
        if name in names or share(documents, reached):
            found.append(name)
            reached.extend(documents)
    return found


def share(documents, others):
    """Return whether at least one document stands in both."""
    return any(document in others for document in documents)


def is_below(heap, name, other):
    """Return whether the action called name lies below the one called other."""
    return name != other and other in up(heap, (name,))


def list_of(heap, document):
    """Return the names of the actions that touch the document, in their order."""
    return tuple(name for name, documents in heap if document in documents)


def normal(heap):
    """Return the heap in its normal order: always the least name that may come next."""
    remaining = list(heap)
    ordered = []
    while remaining:
        # The names differ, so the least pair is the one with the least name.
        least = min(lowest(remaining))
        remaining.remove(least)
        ordered.append(least)
    return tuple(ordered)


def lowest(actions):
    """Return the actions that have none of the others below them."""
    covered = []
    found = []
    for name, documents in actions:
        if not share(documents, covered):
            found.append((name, documents))
        covered.extend(documents)
    return found


def same_heap(heap, other):
    """Return whether both have the same actions, with the same documents and the same lists."""
    # The normal order depends on nothing else, and everything else can be read from it.
    return normal(heap) == normal(other)
