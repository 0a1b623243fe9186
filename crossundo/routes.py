"""Routes: the fewest presses that lead from one cut to another."""

from crossundo.cuts import cuts_of
from crossundo.heaps import down, list_of, up


def shortest(heap, cut, goal):
    """Return as few presses as lead from the cut to the goal; raise TooMany if the heap has more than 2000 cuts."""
    # This raises TooMany; the cuts themselves are found again on the way.
    cuts_of(heap)
    lists = {document: list_of(heap, document) for name, documents in heap for document in documents}
    above = {name: up(heap, (name,)) for name, documents in heap}
    below = {name: down(heap, (name,)) for name, documents in heap}
    routes = {cut: ()}
    latest = [cut]
    while latest and goal not in routes:
        reached = []
        for start in latest:
            for press, end in presses_at(lists, above, below, start):
                if end not in routes:
                    routes[end] = routes[start] + (press,)
                    reached.append(end)
        latest = reached
    return routes[goal]


def presses_at(lists, above, below, cut):
    """Return the presses that can be done at a cut, each with the cut to which it leads."""
    found = []
    for document, names in lists.items():
        # The done actions of a list come before the undone ones.
        done = [name for name in names if name in cut]
        if done:
            gone = above[done[-1]]
            found.append((("undo", document), tuple(name for name in cut if name not in gone)))
        if len(done) < len(names):
            found.append((("redo", document), tuple(sorted(set(cut + below[names[len(done)]])))))
    return found
