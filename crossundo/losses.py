"""Losses: why a row is not kept, told as a chain to a place that does not hold what it should."""

from crossundo.recovery import is_place, row_in


def loss(journals, document, number):
    """Return a chain for this row, None if the row is kept."""
    rows = dict(journals)
    start = (document, number)
    chains = {start: (start,)}
    waiting = [start]
    while waiting:
        place = waiting.pop(0)
        bad = bad_place(rows, place)
        if bad is not None:
            return chains[place] + (bad,)
        for other in needed_places(rows, place):
            if other not in chains:
                chains[other] = chains[place] + (other,)
                waiting.append(other)
    return None


def bad_place(rows, place):
    """Return a place of the row that stands here at which another row or none stands, None if there is none."""
    row = row_in(rows, place)
    for other in row[1]:
        if row_in(rows, other) != row:
            return other
    return None


def needed_places(rows, place):
    """Return the places of the row that stands here, and the place before it in its document."""
    document, number = place
    before = ((document, number - 1),) if number > 0 else ()
    return row_in(rows, place)[1] + before


def shows_loss(journals, document, number, thing):
    """Return whether any object is a chain for this row."""
    if not isinstance(thing, tuple) or not all(is_place(part) for part in thing):
        return False
    if thing[:1] != ((document, number),):
        return False
    rows = dict(journals)
    if not all(is_step(rows, thing[at], thing[at + 1]) for at in range(len(thing) - 1)):
        return False
    return is_missing(rows, thing[-1]) or is_replaced(rows, thing)


def is_step(rows, place, other):
    """Return whether a chain may go on from a place to another one."""
    return is_earlier(place, other) or is_named(rows, place, other)


def is_earlier(place, other):
    """Return whether the other place is an earlier one of the same document."""
    return other[0] == place[0] and other[1] < place[1]


def is_named(rows, place, other):
    """Return whether a row stands at the place that has the other one among its places."""
    row = row_in(rows, place)
    return row is not None and other in row[1]


def is_missing(rows, place):
    """Return whether no row stands at the place."""
    return row_in(rows, place) is None


def is_replaced(rows, chain):
    """Return whether the next to last place names the last one, at which another row stands."""
    if len(chain) < 2 or not is_named(rows, chain[-2], chain[-1]):
        return False
    return row_in(rows, chain[-1]) != row_in(rows, chain[-2])
