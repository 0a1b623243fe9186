"""What several tests use: objects, heaps, and plain readings of the document to compare the package with."""

import itertools
import random
import re
import string

from crossundo.errors import UndoError
from crossundo.workspace import Workspace

DOCUMENTS = ("a", "b", "c", "d", "e", "f", "g", "h")
ACTIONS = tuple(first + second for first in "abcdefgh" for second in "abcdefgh")
CHAIN = (("x", ("a", "b")), ("y", ("b", "c")), ("z", ("c",)))


class Hostile:
    """An object that fails at whatever it is asked."""

    def fail(self, *told):
        raise RuntimeError("asked")

    __eq__ = __ne__ = __lt__ = __le__ = __gt__ = __ge__ = fail
    __len__ = __iter__ = __bool__ = __hash__ = __repr__ = __str__ = fail
    __getitem__ = __contains__ = __int__ = __index__ = __call__ = fail


def nested(kind, depth=30):
    """Return a tuple or list in which another one lies, and so on."""
    thing = kind()
    for _ in range(depth - 1):
        thing = kind([thing])
    return thing


def other_kinds():
    """Return objects that are no strings, no heaps, and no edits."""
    return [
        True, False, None, 0, 1, -1, 10 ** 5000, 1j, Ellipsis, NotImplemented,
        b"", b"a", bytearray(b"a"), memoryview(b"a"), range(1), slice(1),
        [], ["a"], [["a"]], ("a",), (("a",),), ("a", "b"), ("a", ["b"]), (None,), ((),), ([],), ({},),
        {}, {"a": "b"}, set(), {"a"}, frozenset(), frozenset("a"),
        object(), Hostile(), (Hostile(),), ("a", Hostile()), str, len, lambda: "a", ValueError("a"),
        nested(tuple), nested(list), iter("a"), ("a" for _ in "a"),
    ]


def random_heap(seed, actions, documents=8, most=4):
    """Return a heap whose names do not ascend; the same for the same arguments."""
    source = random.Random(seed)
    names = [first + second for first in string.ascii_lowercase for second in "xyz"]
    heap = []
    for name in source.sample(names, actions):
        touched = source.sample(DOCUMENTS[:documents], source.randint(1, min(most, documents)))
        heap.append((name, tuple(sorted(touched))))
    return tuple(heap)


def many_heaps():
    """Return heaps of all sizes up to the limits: sparse, dense, and with few documents."""
    heaps = [()]
    for seed in range(60):
        heaps.append(random_heap(seed, seed % 8 + 1, documents=3))
        heaps.append(random_heap(seed, 12, documents=8, most=2))
        heaps.append(random_heap(seed, 7, documents=6, most=2))
    for seed in range(4):
        heaps.append(random_heap(seed, 40, documents=8, most=1))
        heaps.append(random_heap(seed, 40, documents=8, most=2))
        heaps.append(random_heap(seed, 40, documents=8, most=4))
    return heaps


def all_small_heaps():
    choices = [touched for size in (1, 2, 3) for touched in itertools.combinations("abc", size)]
    for count in range(4):
        for names in itertools.permutations("xyz"[:count]):
            for touched in itertools.product(choices, repeat=count):
                yield tuple(zip(names, touched))


def chains(*lengths):
    """Return a heap with a list of this length in each of several documents."""
    names = iter(ACTIONS)
    return tuple((next(names), (document,)) for document, length in zip(DOCUMENTS, lengths) for _ in range(length))


def pairs_below(heap):
    """Return all pairs (x, y) with x below y, by the words of the definition."""
    order = [name for name, _ in heap]
    touched = dict(heap)
    pairs = set()
    for far in range(1, len(order)):
        for at in range(len(order) - far):
            first, last = order[at], order[at + far]
            between = order[at + 1:at + far]
            if set(touched[first]) & set(touched[last]):
                pairs.add((first, last))
            elif any((first, middle) in pairs and (middle, last) in pairs for middle in between):
                pairs.add((first, last))
    return pairs


def normal_by_definition(heap):
    pairs = pairs_below(heap)
    touched = dict(heap)
    remaining = set(touched)
    ordered = []
    while remaining:
        least = min(name for name in remaining if not any((other, name) in pairs for other in remaining))
        remaining.remove(least)
        ordered.append((least, touched[least]))
    return tuple(ordered)


def cuts_by_definition(heap):
    """Return all sets of names that contain, with each action, all actions below it."""
    pairs = pairs_below(heap)
    names = [name for name, _ in heap]
    found = []
    for size in range(len(names) + 1):
        for chosen in itertools.combinations(names, size):
            if all(x in chosen for x, y in pairs if y in chosen):
                found.append(frozenset(chosen))
    return found


def strange_strings():
    """Return strings that are no names."""
    return ["", "abcdefghi", "A", "aB", "a1", "a\n", "\n", " a", "a b", "a%", "\0", "\u00e9", "\udc80", "x" * 500]


def no_names():
    """Return objects of many kinds that are no names."""
    return [*other_kinds(), *strange_strings()]


def told(call, *arguments, **named):
    """Return what a call returns, or the name of the error that it raises with the values of its attributes."""
    try:
        return ("returned", call(*arguments, **named))
    except UndoError as error:
        return (type(error).__name__, *vars(error).values())


def is_plain(value):
    """Return whether a value and all that it contains is of the kinds that may be returned."""
    if type(value) is tuple:
        return all(is_plain(part) for part in value)
    return value is None or type(value) in (int, str, bool)


class Refused(Exception):
    """What the model raises: the name of an error, and what it is about."""


class Model:
    """A workspace by the words of the document: contents are worked out anew from the first ones each time."""

    def __init__(self):
        self.first = {}
        self.final = {}
        self.saved = {}
        self.opened = set()
        self.edits = {}
        self.order = []
        self.done = set()
        self.events = []

    def told(self, method, *arguments):
        try:
            return ("returned", getattr(self, method)(*arguments))
        except Refused as refused:
            return refused.args

    # What there is.

    def touched(self, *names):
        return {edit[0] for name in names for edit in self.edits[name]}

    def listed(self, document):
        return [name for name in self.order if document in self.touched(name)]

    def heap(self):
        return normal_by_definition(tuple((name, tuple(sorted(self.touched(name)))) for name in self.order))

    def cut(self):
        return tuple(sorted(self.done))

    def documents(self):
        return tuple(sorted(self.first))

    def applied(self, document):
        self.need_open(document)
        return tuple(self.final[document] + [name for name in self.listed(document) if name in self.done])

    def undone(self, document):
        self.need_open(document)
        return tuple(name for name in self.listed(document) if name not in self.done)

    def content(self, document):
        self.need_open(document)
        text = self.first[document]
        for name in self.applied(document):
            for _, at, removed, inserted in [edit for edit in self.edits[name] if edit[0] == document]:
                assert text[at:at + len(removed)] == removed
                text = text[:at] + inserted + text[at + len(removed):]
        return text

    def is_clean(self, document):
        return self.applied(document) == self.saved[document]

    def edits_of(self, name):
        self.need_action(name)
        return self.edits[name]

    def log(self):
        return tuple(self.events)

    def journal(self, document):
        if document not in self.opened:
            raise Refused("NoDocument", document)
        counts = {}
        rows = []
        for event in self.events:
            places = tuple((touched, counts.get(touched, 0)) for touched in event[2])
            if document in event[2]:
                rows.append((event, places))
            counts.update({touched: counts.get(touched, 0) + 1 for touched in event[2]})
        return tuple(rows)

    def state(self):
        documents = [(document, self.content(document), self.applied(document), self.saved[document])
                     for document in self.documents()]
        actions = [(name, self.edits[name], name in self.done) for name, _ in self.heap()]
        return tuple(documents), tuple(actions), tuple(sorted(self.edits))

    # What is worked out before a change.

    def need_open(self, document):
        if document not in self.first:
            raise Refused("NoDocument", document)

    def need_action(self, name):
        if name not in self.order:
            raise Refused("NoAction", name)

    def sorted_names(self, names):
        return tuple(name for name, _ in self.heap() if name in names)

    def above(self, names):
        pairs = pairs_below(self.heap())
        return {y for y in self.order if y in names or any((x, y) in pairs for x in names)}

    def below(self, names):
        pairs = pairs_below(self.heap())
        return {x for x in self.order if x in names or any((x, y) in pairs for y in names)}

    def deleted_by(self, documents):
        starts = [name for name in self.order if name not in self.done and self.touched(name) & set(documents)]
        return self.sorted_names(self.above(starts))

    # What changes the model.

    def add(self, kind, argument, documents):
        self.events.append((kind, argument, tuple(sorted(documents))))

    def open_document(self, document, content=""):
        if document in self.first:
            raise Refused("AlreadyOpen", document)
        self.first[document] = content
        self.final[document] = []
        self.saved[document] = ()
        self.opened.add(document)
        self.add("open", (document, content), {document})

    def do(self, name, edits):
        if name in self.edits:
            raise Refused("DuplicateName", name)
        for edit in edits:
            self.need_open(edit[0])
        for document, at, removed, _ in edits:
            if at > len(self.content(document)) or not self.content(document)[at:].startswith(removed):
                raise Refused("EditMismatch", document)
        for document, at, removed, inserted in edits:
            text = self.content(document)[:at] + inserted + self.content(document)[at + len(removed):]
            if len(text) > 400:
                raise Refused("BadContent", text)
        deleted = self.deleted_by({edit[0] for edit in edits})
        self.order = [other for other in self.order if other not in deleted] + [name]
        self.edits[name] = edits
        self.done.add(name)
        self.add("do", (name, edits), self.touched(name, *deleted))
        return deleted

    def back(self, kind, argument, name):
        names = self.sorted_names(self.above([name]) & self.done)[::-1]
        self.done -= set(names)
        self.add(kind, argument, self.touched(*names))
        return names

    def forth(self, kind, argument, name):
        names = self.sorted_names(self.below([name]) - self.done)
        self.done |= set(names)
        self.add(kind, argument, self.touched(*names))
        return names

    def undo(self, document):
        self.need_open(document)
        done = [name for name in self.listed(document) if name in self.done]
        if not done:
            raise Refused("NothingToUndo", document)
        return self.back("undo", document, done[-1])

    def redo(self, document):
        if not self.undone(document):
            raise Refused("NothingToRedo", document)
        return self.forth("redo", document, self.undone(document)[0])

    def take_back(self, name):
        self.need_action(name)
        if name not in self.done:
            raise Refused("AlreadyUndone", name)
        return self.back("take_back", name, name)

    def restore(self, name):
        self.need_action(name)
        if name in self.done:
            raise Refused("AlreadyDone", name)
        return self.forth("restore", name, name)

    def save(self, document):
        self.saved[document] = self.applied(document)
        self.add("save", document, {document})

    def settle(self, starts):
        names = self.sorted_names(self.below(starts))
        for document in self.first:
            self.final[document] += [name for name in self.listed(document) if name in names]
        self.order = [name for name in self.order if name not in names]
        self.done -= set(names)
        return names

    def close(self, document):
        self.need_open(document)
        before = self.heap()
        deleted = self.deleted_by([document])
        final = self.settle([name for name in self.listed(document) if name in self.done])
        self.order = [name for name in self.order if name not in deleted]
        for kept in (self.first, self.final, self.saved):
            del kept[document]
        assert [name for name, _ in before if name in final] == list(final)
        self.add("close", document, {document} | self.touched(*final, *deleted))
        return final, deleted

    def forget(self, document):
        self.need_open(document)
        done = [name for name in self.listed(document) if name in self.done]
        if not done:
            raise Refused("NothingToForget", document)
        final = self.settle(done[:1])
        self.add("forget", document, {document} | self.touched(*final))
        return final


# How often each kind of call is drawn; BUSY makes large heaps.
CHANGES = {"do": 10, "undo": 6, "redo": 6, "take_back": 3, "restore": 4, "save": 2, "forget": 1, "close": 1, "open": 3}
BUSY = {"do": 24, "undo": 3, "redo": 12, "take_back": 1, "restore": 6, "save": 1, "open": 3}
UNDOS = {"undo": 4, "take_back": 3, "redo": 1, "restore": 1}


def draw_edits(source, model):
    """Return edits of open documents; they fit, except for a few."""
    documents = model.documents()
    count = min(source.choice((1, 1, 1, 2, 2, 2, 3, 4)), len(documents))
    edits = []
    for document in sorted(source.sample(documents, count)):
        content = model.content(document)
        at = source.randint(0, len(content))
        removed = content[at:at + source.randint(0, 3)]
        inserted = "".join(source.choices("klmn ~!", k=source.randint(0, 4)))
        edits.append((document, at, removed if source.random() < 0.98 else removed + "?", inserted))
    return tuple(edits)


def draw_call(source, model, documents, weights):
    """Return a method and its arguments: mostly a call that changes something, at times one that is refused."""
    kind = source.choices(list(weights), list(weights.values()))[0]
    if kind == "open" or not model.first:
        return "open_document", source.choice(documents), source.choice(("", "one", "two words"))
    if kind == "do":
        used = sorted(model.edits)
        again = used and source.random() < 0.03
        fresh = "".join(source.choices(string.ascii_lowercase, k=source.randint(2, 3)))
        return "do", source.choice(used) if again else fresh, draw_edits(source, model)
    if kind in ("take_back", "restore"):
        likely = [name for name in model.order if (name in model.done) == (kind == "take_back")]
        return kind, source.choice(likely if likely and source.random() < 0.7 else [*sorted(model.edits), "never"])
    likely = [document for document in model.documents() if kind != "redo" or model.undone(document)]
    return kind, source.choice(likely if likely and source.random() < 0.9 else documents)


def drawn_calls(seed, count, documents=4, weights=CHANGES):
    """Yield calls and the model in which each of them was just made; the same for the same arguments."""
    source = random.Random(seed)
    model = Model()
    for at in range(count):
        # Among other calls an undo is soon followed by an action that deletes much; so some come in a row.
        chosen = UNDOS if at % 16 > 12 and weights != BUSY else weights
        method, *arguments = draw_call(source, model, DOCUMENTS[:documents], chosen)
        if method != "do" or len(model.order) < 40:
            yield method, arguments, model.told(method, *arguments), model


def drawn_workspace(seed, count, documents=4, weights=CHANGES):
    """Return a workspace after drawn calls, of which some were refused."""
    workspace = Workspace()
    for method, arguments, _, _ in drawn_calls(seed, count, documents, weights):
        told(getattr(workspace, method), *arguments)
    return workspace


def half_undone(seed, count, documents=5):
    """Return a workspace after drawn calls, with about half of its actions undone."""
    workspace = drawn_workspace(seed, count, documents, BUSY)
    source = random.Random(seed)
    aim = len(workspace.heap()) // 2
    while len(workspace.cut()) > aim:
        told(workspace.undo, source.choice(workspace.documents()))
    return workspace


def doc_workspace(*documents):
    """Return a workspace with these open documents, each with its own name as its content."""
    workspace = Workspace()
    for document in documents:
        workspace.open_document(document, document)
    return workspace


def mark(*documents):
    """Return edits that put a sign in front of each of these documents."""
    return tuple((document, 0, "", "!") for document in sorted(documents))


def number_of_first_bad(log):
    """Return the number of the first event that the plain model refuses or does with another footprint."""
    model = Model()
    for number, (kind, argument, footprint) in enumerate(log):
        method = "open_document" if kind == "open" else kind
        arguments = argument if kind in ("open", "do") else (argument,)
        if model.told(method, *arguments)[0] != "returned" or model.events[-1][2] != footprint:
            return number
    return None


def everything(workspace):
    """Return all that a workspace tells."""
    documents = workspace.documents()
    return (workspace.state(), workspace.log(), workspace.heap(), workspace.cut(),
            [told(workspace.journal, document) for document in DOCUMENTS],
            [(workspace.content(document), workspace.applied(document), workspace.undone(document),
              workspace.is_clean(document)) for document in documents])


# What is told of events, journals and kept rows, by the words of the document.

KINDS = ("open", "do", "undo", "redo", "take_back", "restore", "save", "close", "forget")
NAME = "[a-z]{1,8}"
CONTENT = "[ -$&-~]{0,400}"


def has_form(pattern, thing):
    """Return whether an object is a string of this form."""
    return type(thing) is str and re.fullmatch(pattern, thing) is not None


def is_number_from_0(thing):
    return type(thing) is int and thing >= 0


def is_tuple(thing, *tests):
    """Return whether an object is a tuple of as many parts as there are tests, each of which holds of its part."""
    return type(thing) is tuple and len(thing) == len(tests) and all(test(part) for test, part in zip(tests, thing))


def is_name_by_definition(thing):
    return has_form(NAME, thing)


def is_content_by_definition(thing):
    return has_form(CONTENT, thing)


def is_footprint_by_definition(thing):
    return (type(thing) is tuple and len(thing) > 0 and all(has_form(NAME, part) for part in thing)
            and list(thing) == sorted(set(thing)))


def is_edits_by_definition(thing):
    contents = is_content_by_definition
    if type(thing) is not tuple or len(thing) not in (1, 2, 3, 4):
        return False
    if not all(is_tuple(edit, is_name_by_definition, is_number_from_0, contents, contents) for edit in thing):
        return False
    documents = [edit[0] for edit in thing]
    return documents == sorted(set(documents))


def is_event_by_definition(thing):
    if not is_tuple(thing, lambda kind: type(kind) is str and kind in KINDS, lambda _: True, is_footprint_by_definition):
        return False
    if thing[0] == "open":
        return is_tuple(thing[1], is_name_by_definition, is_content_by_definition)
    if thing[0] == "do":
        return is_tuple(thing[1], is_name_by_definition, is_edits_by_definition)
    return has_form(NAME, thing[1])


def is_place_by_definition(thing):
    return is_tuple(thing, is_name_by_definition, is_number_from_0)


def is_row_by_definition(thing):
    def is_places(places):
        return type(places) is tuple and all(is_place_by_definition(place) for place in places)
    return is_tuple(thing, is_event_by_definition, is_places) and [place[0] for place in thing[1]] == list(thing[0][2])


def is_journals_by_definition(thing):
    def is_rows(rows):
        return type(rows) is tuple and all(is_row_by_definition(row) for row in rows)
    if type(thing) is not tuple or not all(is_tuple(pair, is_name_by_definition, is_rows) for pair in thing):
        return False
    documents = [document for document, _ in thing]
    return documents == sorted(set(documents)) and all(
        (document, number) in places for document, rows in thing for number, (_, places) in enumerate(rows))


def journals_by_definition(log):
    """Return the journals of a log, by counting; whether the events can be done is not looked at."""
    rows = {}
    for event in log:
        places = tuple((document, len(rows.get(document, []))) for document in event[2])
        for document in event[2]:
            rows.setdefault(document, []).append((event, places))
    return tuple((document, tuple(rows[document])) for document in sorted(rows))


def kept_by_definition(journals):
    """Return the places of the kept rows: rows are dropped again and again."""
    rows = {(document, number): row for document, told_rows in journals for number, row in enumerate(told_rows)}
    left = set(rows)

    def is_lost(place):
        return any(rows.get((document, number)) != rows[place]
                   or any((document, earlier) not in left for earlier in range(number))
                   for document, number in rows[place][1])
    lost = {place for place in left if is_lost(place)}
    while lost:
        left -= lost
        lost = {place for place in left if is_lost(place)}
    return left


def kept_journals(journals):
    """Return the kept rows, as journals: those without a row left out."""
    left = kept_by_definition(journals)
    pairs = [(document, tuple(row for number, row in enumerate(rows) if (document, number) in left))
             for document, rows in journals]
    return tuple((document, rows) for document, rows in pairs if rows)


def cut_off(source, journals, share=0.5):
    """Return journals of which some, drawn, are cut off at drawn places."""
    return tuple((document, rows[:source.randint(0, len(rows))] if source.random() < share else rows)
                 for document, rows in journals)


def beginnings(journals, counts):
    """Return journals of which each has only so many rows."""
    return tuple((document, rows[:count]) for (document, rows), count in zip(journals, counts))


# Objects of any kind, and things of which a part is bent.

NAMES = ("a", "b", "c", "d", "x", "zz", "abcdefgh", "abcdefghi", "A", "", "a b", "a\n")
LEAVES = (*NAMES, *KINDS, "open_document", "at", "edit", 0, 1, 2, 5, 400, -1, True, False, None, b"a", "%", "~" * 401)


def bent_leaf(source, leaf):
    """Return something in the place of a string or a number, often of the same kind."""
    choices = [source.choice(LEAVES), source.choice(NAMES[:7]), source.choice(KINDS), (leaf,), [leaf], Hostile()]
    if type(leaf) is str:
        choices += [leaf + "a", leaf[1:], leaf[::-1], leaf * 2, leaf.upper(), leaf + "%", leaf + " ", leaf.encode(), list(leaf)]
    else:
        choices += [leaf + 1, leaf - 1, -leaf, bool(leaf), str(leaf), leaf + 1, leaf - 1]
    return source.choice(choices)


def bent_here(source, thing):
    """Return a tuple with one part left out, doubled, put in or exchanged, or another kind of value instead."""
    at = source.randint(0, max(0, len(thing) - 1))
    return source.choice((
        lambda: thing[:at] + thing[at + 1:],
        lambda: thing[:at + 1] + thing[at:],
        lambda: thing[::-1],
        lambda: thing[:at] + (source.choice(LEAVES),) + thing[at:],
        lambda: thing[:at] + (source.choice(other_kinds()),) + thing[at + 1:],
        lambda: thing[:at] + thing[at + 1:at + 2] + thing[at:at + 1] + thing[at + 2:],
        lambda: list(thing),
        lambda: (thing,),
        lambda: thing[at] if thing else None,
        lambda: thing + thing,
        lambda: {part: part for part in thing if type(part) is str},
    ))()


def bent(source, thing):
    """Return a thing with something changed at a drawn place and depth."""
    if type(thing) is not tuple:
        return bent_leaf(source, thing) if type(thing) in (str, int) else source.choice(LEAVES)
    if not thing or source.random() < 0.2:
        return bent_here(source, thing)
    at = source.randrange(len(thing))
    return thing[:at] + (bent(source, thing[at]),) + thing[at + 1:]


def anything():
    """Return objects of any kind, those that are nested, and those that hold others in places where they may be asked."""
    things = [*no_names(), *NAMES, *KINDS]
    for _ in range(2):
        things += [(thing,) for thing in things[:60]] + [(thing, thing) for thing in things[:60]]
    things += [nested(kind, depth) for kind in (tuple, list) for depth in (2, 5, 26, 27, 28, 29, 30)]
    return things + [("save", "a", ("a",), thing) for thing in other_kinds()]


# Journals to be recovered.

CIRCLE = (("a", ((("undo", "a", ("a", "b")), (("a", 0), ("b", 1))), (("redo", "b", ("a", "b")), (("a", 1), ("b", 0))))),
          ("b", ((("redo", "b", ("a", "b")), (("a", 1), ("b", 0))), (("undo", "a", ("a", "b")), (("a", 0), ("b", 1))))))


def workspaces(count=12):
    """Return workspaces after drawn calls, some of them with many undone actions."""
    return ([drawn_workspace(seed, 25 + seed % 3 * 15, 3 + seed % 4) for seed in range(count)]
            + [half_undone(seed, 25) for seed in range(count // 3)])


def some_journals(count=12):
    return [journals_by_definition(workspace.log()) for workspace in workspaces(count)]


def replaced_row(source, journals):
    """Return journals in which one row, in one document only, is another one that has the form."""
    full = [at for at, (_, rows) in enumerate(journals) if rows]
    at = source.choice(full)
    document, rows = journals[at]
    number = source.randrange(len(rows))
    (kind, argument, footprint), places = rows[number]
    if source.random() < 0.5:
        other = "redo" if kind != "redo" else "undo"
        row = ((other, document, footprint), places)
    elif len(places) > 1 and source.random() < 0.7:
        # A place of another document points elsewhere.
        moved = source.choice([place for place in places if place[0] != document])
        elsewhere = (moved[0], source.choice((0, moved[1] + 1, max(0, moved[1] - 1), 99)))
        row = ((kind, argument, footprint), tuple(elsewhere if place == moved else place for place in places))
    else:
        wider = tuple(sorted({*footprint, source.choice(DOCUMENTS)}))
        numbers = dict(places)
        row = ((kind, argument, wider), tuple((other, numbers.get(other, source.randint(0, 3))) for other in wider))
    changed = rows[:number] + (row,) + rows[number + 1:]
    return journals[:at] + ((document, changed),) + journals[at + 1:]


def without_one(source, journals):
    """Return journals that lack one document's."""
    at = source.randrange(len(journals))
    return journals[:at] + journals[at + 1:]


def damaged(source, journals):
    """Return journals that are cut off, have another row, or lack a document; all of it may happen."""
    if source.random() < 0.7:
        journals = cut_off(source, journals, source.choice((0.2, 0.5, 0.9)))
    while source.random() < 0.4 and any(rows for _, rows in journals):
        journals = replaced_row(source, journals)
    while source.random() < 0.2 and len(journals) > 1:
        journals = without_one(source, journals)
    return journals


def stirred_journals(source):
    """Return journals of events that stand in each document in an order of its own, often in circles."""
    documents = "abcd"[:source.randint(2, 4)]
    events = []
    for number in range(source.randint(1, 7)):
        footprint = tuple(sorted(source.sample(documents, source.choice((1, 1, 2, 2, 3)[:len(documents) + 1]))))
        events.append((source.choice(KINDS[2:]), "abcdefgh"[number], footprint))
    orders = {document: [event for event in events if document in event[2]] for document in documents}
    for document in documents:
        if source.random() < 0.6:
            source.shuffle(orders[document])

    def row(event):
        return event, tuple((document, orders[document].index(event)) for document in event[2])
    return tuple((document, tuple(row(event) for event in orders[document])) for document in documents)


def all_damaged(count=300):
    """Return journals of many kinds, all of the form."""
    found = [(), CIRCLE, (("a", ()),), (("a", ()), ("b", ()))]
    whole = [journals for journals in some_journals() if journals]
    for seed in range(count):
        source = random.Random(seed)
        found.append(damaged(source, whole[seed % len(whole)]))
        found.append(stirred_journals(source))
        found.append(damaged(source, stirred_journals(source)))
    return found


# Texts, by the words of point [27].

NUMBER = "0|[1-9][0-9]{0,2}"
FIRST = re.compile(f"open {NAME} {CONTENT}|(do|undo|redo|take_back|restore|save|close|forget) {NAME}")
EDIT = re.compile(f"edit ({NAME}) ({NUMBER}) ({NUMBER}) ([ -$&-~]*)")
LAST = re.compile(f"at(?: {NAME})+")


def is_edit_row(row, documents):
    """Return whether a row can stand behind `do` and edit rows of these documents."""
    found = EDIT.fullmatch(row)
    if not found or len(documents) == 4 or documents and documents[-1] >= found[1]:
        return False
    count = int(found[3])
    return count <= min(len(found[4]), 400) and len(found[4]) - count <= 400


def bad_row(text):
    """Return the number of the first row that cannot stand there or is missing, by the words of point [27]; or None."""
    rows = text.split("\n") if text != "" else []
    expected = "first"
    for number, row in enumerate(rows):
        words = row.split(" ")
        if expected == "first" and FIRST.fullmatch(row):
            expected, documents = ("edit", []) if words[0] == "do" else ("last", None)
        elif expected in ("edit", "edit or last") and is_edit_row(row, documents):
            expected = "edit or last"
            documents.append(words[1])
        elif expected in ("last", "edit or last") and LAST.fullmatch(row) and words[1:] == sorted(set(words[1:])):
            expected = "first"
        else:
            return number
    return None if expected == "first" else len(rows)


# Logs in another order.

def can_exchange(log, at):
    return not set(log[at][2]) & set(log[at + 1][2])


def exchanged(log, at):
    return log[:at] + (log[at + 1], log[at]) + log[at + 2:]


def stirred(source, log, times=300):
    """Return a log after many drawn exchanges."""
    for at in source.choices(range(len(log) - 1), k=times) if len(log) > 1 else ():
        if can_exchange(log, at):
            log = exchanged(log, at)
    return log
