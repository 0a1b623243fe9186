"""Texts: points [20] and [27], and guarantee (h) of point [4] as far as it speaks of written logs."""

import copy
import random
import unittest

from crossundo.errors import BadText
from crossundo.texts import is_event, read_log, show_log
from tests.samples import BUSY, KINDS, Hostile, anything, bad_row, bent, drawn_workspace, half_undone
from tests.samples import is_event_by_definition, is_plain, mark, told

EVENTS = (
    ("open", ("a", "one"), ("a",)),
    ("open", ("abcdefgh", ""), ("abcdefgh",)),
    ("open", ("b", " open a one"), ("b",)),
    ("do", ("x", (("a", 0, "one", "two"),)), ("a",)),
    ("do", ("y", (("a", 12, "", ""), ("b", 999, " ", "at b"), ("cc", 3, "edit a 0 0 ", ""), ("d", 7, "~!", "$&"))),
     ("a", "b", "c", "cc", "d")),
    ("undo", "a", ("a", "b")),
    ("redo", "b", ("a", "b")),
    ("take_back", "x", ("a",)),
    ("restore", "x", ("a", "c", "dd")),
    ("save", "a", ("a",)),
    ("close", "a", ("a", "b", "c", "d", "e", "f", "g", "h")),
    ("forget", "a", ("z",)),
)


def logs():
    """Return logs of workspaces."""
    return ([drawn_workspace(seed, 40, 3 + seed % 6).log() for seed in range(12)]
            + [half_undone(seed, 30).log() for seed in range(4)])


def drawn_content(source, most=400):
    """Return a content; often a short one, or one that looks like a row."""
    kind = source.random()
    if kind < 0.3:
        return source.choice(("", " ", "  ", "at a", "open a one", "do x", "edit a 0 0 ", "0", "a", " at a", "undo b "))
    length = source.choice((1, 2, 5, 30, most)) if kind < 0.9 else source.randint(0, most)
    return "".join(source.choices([chr(code) for code in range(32, 127) if code != 37], k=length))


def drawn_name(source):
    return "".join(source.choices("abcdefghijklmnopqrstuvwxyz", k=source.randint(1, 8)))


def drawn_event(source):
    """Return an event that no workspace may ever do."""
    kind = source.choice(KINDS)
    argument = drawn_name(source)
    if kind == "open":
        argument = (argument, drawn_content(source))
    if kind == "do":
        documents = sorted({drawn_name(source) for _ in range(source.randint(1, 4))})
        argument = (argument, tuple((document, source.choice((0, 9, 10, 99, 100, 999, source.randint(0, 999))),
                                     drawn_content(source), drawn_content(source)) for document in documents))
    return kind, argument, tuple(sorted({drawn_name(source) for _ in range(source.randint(1, 9))}))


def drawn_logs(count=150):
    for seed in range(count):
        source = random.Random(seed)
        yield tuple(drawn_event(source) for _ in range(seed % 9))


class IsEventTest(unittest.TestCase):

    def check(self, thing):
        expected = is_event_by_definition(thing)
        self.assertIs(is_event(thing), expected)
        return expected

    def test_all_kinds(self):
        self.assertEqual({event[0] for event in EVENTS}, set(KINDS))
        for event in EVENTS:
            self.assertIs(is_event(event), True, event)
        for log in (*logs(), *drawn_logs()):
            for event in log:
                self.assertIs(is_event(event), True, event)

    def test_one_or_two_things_changed(self):
        found = []
        for seed in range(1500):
            source = random.Random(seed)
            event = EVENTS[seed % len(EVENTS)]
            once = bent(source, event)
            found.append(self.check(once))
            found.append(self.check(bent(source, once)))
            found.append(self.check(bent(source, event)))
        self.assertGreater(found.count(True), 200)
        self.assertGreater(found.count(False), 200)

    def test_other_kinds_of_values_at_each_place(self):
        for thing in anything():
            for kind, argument, footprint in EVENTS:
                self.check((thing, argument, footprint))
                self.check((kind, thing, footprint))
                self.check((kind, argument, thing))
                self.check((kind, argument, footprint + (thing,)))
                if type(argument) is tuple:
                    self.check((kind, (thing, argument[1]), footprint))
                    self.check((kind, (argument[0], thing), footprint))
            for at in range(4):
                edit = ("a", 0, "x", "y")
                self.check(("do", ("x", (edit[:at] + (thing,) + edit[at + 1:],)), ("a",)))

    def test_a_part_left_out_doubled_longer_shorter_reversed(self):
        for event in EVENTS:
            for thing in (event[:2], event[1:], event[::-1], event + event, event + event[2:], (event,), list(event), event[:1]):
                self.assertIs(is_event(thing), False)
            kind, argument, footprint = event
            self.assertIs(is_event((kind, argument, list(footprint))), False)
            self.assertIs(is_event((kind, list(argument), footprint)), False)
            self.assertIs(is_event((kind, (argument,), footprint)), False)
            self.assertIs(is_event((kind, argument + argument, footprint)), type(argument) is str)

    def test_footprints(self):
        for kind, argument, _ in EVENTS:
            for footprint in (("a",), ("a", "b"), ("z",), tuple("abcdefghij"), ("a", "aa", "ab", "b")):
                self.assertIs(is_event((kind, argument, footprint)), True)
            for footprint in ((), ("a", "a"), ("b", "a"), ("a", "b", "b"), ("a", "c", "b"), ("A",), ("",), "a", "ab", ["a"],
                              ("a", 1), (("a",),), ("a", None), ("abcdefghi",), None, {"a": 1}):
                self.assertIs(is_event((kind, argument, footprint)), False)

    def test_an_argument_of_another_kind_of_event(self):
        for kind in KINDS:
            for _, argument, footprint in EVENTS:
                self.check((kind, argument, footprint))
        for kind in ("open_document", "Open", "undo ", "", "content", "back", "at", "edit", "heap"):
            for _, argument, footprint in EVENTS:
                self.assertIs(is_event((kind, argument, footprint)), False)

    def test_numbers_and_booleans(self):
        for position in (0, 1, 399, 400, 999, 1000, 10 ** 30):
            self.assertIs(is_event(("do", ("x", (("a", position, "", ""),)), ("a",))), True)
        for position in (True, False, -1, "0", None, (0,), 1j):
            self.assertIs(is_event(("do", ("x", (("a", position, "", ""),)), ("a",))), False)

    def test_contents(self):
        for content, good in (("x" * 400, True), ("x" * 401, False), ("", True), ("\n", False), ("a%", False), ("\t", False)):
            self.assertIs(is_event(("open", ("a", content), ("a",))), good)
            self.assertIs(is_event(("do", ("x", (("a", 0, content, ""),)), ("a",))), good)
            self.assertIs(is_event(("do", ("x", (("a", 0, "", content),)), ("a",))), good)

    def test_objects_of_any_kind(self):
        for thing in anything():
            self.assertIs(is_event(thing), False)

    def test_nothing_is_changed(self):
        for thing in (("do", ["x", [["a", 0, "", ""]]], ["a"]), ["undo", "a", ("a",)], {"kind": ["undo"]},
                      ("undo", {"a": ["b"]}, ("a",)), ("open", ("a", ["one"]), ("a",)), ("undo", "a", ["b", "a"])):
            before = copy.deepcopy(thing)
            self.assertIs(is_event(thing), False)
            self.assertEqual(told(read_log, thing), ("BadText", 0))
            self.assertEqual(thing, before)


class ShowTest(unittest.TestCase):

    def test_by_hand(self):
        self.assertEqual(show_log(EVENTS), "\n".join((
            "open a one", "at a",
            "open abcdefgh ", "at abcdefgh",
            "open b  open a one", "at b",
            "do x", "edit a 0 3 onetwo", "at a",
            "do y", "edit a 12 0 ", "edit b 999 1  at b", "edit cc 3 11 edit a 0 0 ", "edit d 7 2 ~!$&", "at a b c cc d",
            "undo a", "at a b",
            "redo b", "at a b",
            "take_back x", "at a",
            "restore x", "at a c dd",
            "save a", "at a",
            "close a", "at a b c d e f g h",
            "forget a", "at z")))

    def test_the_empty_log(self):
        self.assertEqual(show_log(()), "")
        self.assertEqual(read_log(""), ())

    def check(self, log):
        shown = repr(log)
        text = show_log(log)
        self.assertIs(type(text), str)
        self.assertIsNone(bad_row(text))
        self.assertEqual(read_log(text), log)
        self.assertEqual(show_log(read_log(text)), text)
        self.assertTrue(is_plain(read_log(text)))
        self.assertEqual(repr(log), shown)
        return text

    def test_read_again(self):
        self.check(EVENTS)
        for log in (*logs(), *drawn_logs()):
            self.check(log)

    def test_a_log_up_to_the_limits(self):
        for seed in range(2):
            log = drawn_workspace(seed, 250, 8, BUSY).log()[:210]
            self.check(log)
            self.check((log + log + log)[:210])
            self.assertGreater(len(log), 105)

    def test_a_log_doubled(self):
        for log in (EVENTS, *logs(), *drawn_logs()):
            text = self.check(log + log)
            if log:
                self.assertEqual(text, show_log(log) + "\n" + show_log(log))

    def test_the_text_of_a_beginning_begins_the_text(self):
        for log in (EVENTS, *logs()[:4], *drawn_logs(40)):
            text = show_log(log)
            for count in range(len(log) + 1):
                part = show_log(log[:count])
                self.assertTrue(text.startswith(part))
                if 0 < count < len(log):
                    self.assertTrue(text.startswith(part + "\n"))

    def test_different_logs_have_different_texts(self):
        texts = {}
        for log in (*logs(), *drawn_logs()):
            self.assertEqual(texts.setdefault(show_log(log), log), log)

    def test_contents_of_four_hundred_characters(self):
        for content in ("x" * 400, " " * 400, "at a " * 80, "~" * 400):
            self.check((("open", ("a", content), ("a",)),))
            for other in ("", "y", content):
                self.check((("do", ("x", (("a", 0, content, other), ("b", 999, other, content))), ("a", "b")),))

    def test_positions(self):
        for position in range(1000):
            event = ("do", ("x", (("a", position, "", "z"),)), ("a",))
            self.assertEqual(show_log((event,)), f"do x\nedit a {position} 0 z\nat a")
            self.assertEqual(read_log(show_log((event,))), (event,))

    def test_counts(self):
        for count in range(401):
            event = ("do", ("x", (("a", 0, "r" * count, "i"),)), ("a",))
            self.assertEqual(show_log((event,)), f"do x\nedit a 0 {count} {'r' * count}i\nat a")
            self.assertEqual(read_log(show_log((event,))), (event,))


class ReadTest(unittest.TestCase):

    def check(self, text):
        """Compare with the words of the document; return the number of the bad row."""
        number = bad_row(text)
        if number is None:
            self.assertEqual(show_log(read_log(text)), text)
        else:
            self.refuses(text, number)
        return number

    def refuses(self, text, number):
        with self.assertRaises(BadText) as caught:
            read_log(text)
        self.assertIs(type(caught.exception), BadText)
        self.assertEqual(vars(caught.exception), {"row": number})
        self.assertIs(type(caught.exception.row), int)

    def texts(self):
        yield show_log(EVENTS)
        yield from (show_log(log) for log in logs()[:5])
        yield from (show_log(log) for log in drawn_logs(60))

    def check_all(self, texts):
        found = [self.check(text) for text in texts]
        self.assertTrue(any(number is not None for number in found))
        return found

    def test_a_row_left_out_doubled_exchanged_or_put_behind(self):
        changed = []
        for text in self.texts():
            rows = text.split("\n")
            for at in range(len(rows)):
                for other in (rows[:at] + rows[at + 1:], rows[:at + 1] + rows[at:], rows[:at] + rows[at:at + 2][::-1] + rows[at + 2:],
                              rows + [rows[at]], rows[:at] + rows[at + 1:] + [rows[at]], [rows[at]] + rows):
                    changed.append("\n".join(other))
        self.assertIn(None, self.check_all(changed))

    def test_rows_up_to_each(self):
        for text in self.texts():
            rows = text.split("\n")
            for count in range(1, len(rows)):
                number = self.check("\n".join(rows[:count]))
                self.assertIn(number, (None, count))

    def test_an_empty_row_at_each_place(self):
        for text in self.texts():
            if text:
                rows = text.split("\n")
                for at in range(len(rows) + 1):
                    self.refuses("\n".join(rows[:at] + [""] + rows[at:]), at)
                self.refuses(text + "\n", len(rows))
                self.refuses(text + "\n\n", len(rows))
        self.refuses("\n", 0)
        self.refuses("\n\n", 0)
        self.refuses(" ", 0)

    def test_a_word_changed(self):
        changed = []
        words = ("", "a", "b", "zz", "open", "do", "undo", "edit", "at", "take_back", "back", "0", "1", "00", "01", "999", "1000",
                 "400", "401", "-1", "+1", "1_0", "A", "abcdefghi", "%", "\t", "\u0661", "\u00b2", "one two")
        for seed, text in enumerate(self.texts()):
            source = random.Random(seed)
            rows = text.split("\n")
            for at, row in enumerate(rows):
                parts = row.split(" ")
                for number in range(min(len(parts), 6)):
                    other = parts[:number] + [source.choice(words)] + parts[number + 1:]
                    changed.append("\n".join(rows[:at] + [" ".join(other)] + rows[at + 1:]))
                    changed.append("\n".join(rows[:at] + [" ".join(parts[:number] + parts[number + 1:])] + rows[at + 1:]))
                    changed.append("\n".join(rows[:at] + [" ".join(parts[:number + 1] + parts[number:])] + rows[at + 1:]))
        self.assertIn(None, self.check_all(changed))

    def test_a_sign_changed(self):
        changed = []
        signs = "abz019 ~%\n\t\r\0AZ_-+.\u00e9\u0661\x7f\x1f\x85\u2028\x0b\x0c"
        for seed, text in enumerate(self.texts()):
            source = random.Random(seed)
            for at in sorted(source.sample(range(len(text)), min(len(text), 60))):
                sign = source.choice(signs)
                changed += [text[:at] + sign + text[at + 1:], text[:at] + sign + text[at:], text[:at] + text[at + 1:]]
        self.assertIn(None, self.check_all(changed))

    def test_other_blanks(self):
        for text in ("open a one\nat a", "do x\nedit a 0 3 onetwo\nedit b 0 0 \nat a b", "undo a\nat a b"):
            for at, sign in enumerate(text):
                if sign == " ":
                    for other in ("", "  ", "\t", "\n", "\u00a0", "_"):
                        self.check(text[:at] + other + text[at + 1:])
                if sign == "\n":
                    for other in ("", " ", " \n", "\n ", "\r\n", "\r", "\n\n"):
                        self.check(text[:at] + other + text[at + 1:])
            self.assertIsNotNone(self.check(" " + text))
            self.assertIsNotNone(self.check(text + " "))

    def test_blanks_within_contents(self):
        self.assertEqual(read_log("open a  one  two \nat a"), (("open", ("a", " one  two "), ("a",)),))
        self.assertEqual(read_log("do x\nedit a 3 1   at a \nat a"), (("do", ("x", (("a", 3, " ", " at a "),)), ("a",)),))

    def test_by_hand(self):
        for text, number in (
                ("open a", 0), ("open a one", 1), ("open a one\nat", 1), ("open a one\nat a a", 1), ("open a one\nat b a", 1),
                ("open a one\nat a\nat a", 2), ("open a one\nat  a", 1), ("open a one\nat a ", 1), ("open A one\nat a", 0),
                ("open a 1\nopen b 2\nat b", 1), ("open  one\nat a", 0), ("open", 0), ("open ", 0), ("at a", 0), ("edit a 0 0 ", 0),
                ("do x", 1), ("do x\nat a", 1), ("do x\nedit a 0 0 ", 2), ("do x\nedit a 0 0 \nat", 2), ("do x y\nat a", 0),
                ("do x\nedit a 0 0\nat a", 1), ("do x\nedit a 0 4 one\nat a", 1), ("do x\nedit a 00 0 \nat a", 1),
                ("do x\nedit a 0 00 \nat a", 1), ("do x\nedit a 01 0 \nat a", 1), ("do x\nedit a 1000 0 \nat a", 1),
                ("do x\nedit a -1 0 \nat a", 1), ("do x\nedit b 0 0 \nedit a 0 0 \nat a b", 2),
                ("do x\nedit a 0 0 \nedit a 0 0 \nat a", 2), ("do x\nundo a\nat a", 1), ("take back\nat a", 0), ("back x\nat a", 0),
                ("undo\nat a", 0), ("undo \nat a", 0), ("undo a b\nat a", 0), ("undo a\nat a\n", 2), ("undo a\nat a\nundo", 2),
                ("log", 0), ("show a", 0), ("undo a\n", 1), ("undo a", 1)):
            self.assertEqual(bad_row(text), number, text)
            self.refuses(text, number)

    def test_contents_that_are_too_long(self):
        self.refuses(f"open a {'x' * 401}\nat a", 0)
        self.refuses(f"do x\nedit a 0 401 {'x' * 401}\nat a", 1)
        self.refuses(f"do x\nedit a 0 0 {'x' * 401}\nat a", 1)
        self.refuses(f"do x\nedit a 0 400 {'x' * 801}\nat a", 1)
        self.refuses(f"do x\nedit a 0 399 {'x' * 800}\nat a", 1)
        self.refuses(f"do x\nedit a 0 500 {'x' * 800}\nat a", 1)
        self.assertEqual(len(read_log(f"do x\nedit a 0 400 {'x' * 800}\nat a")), 1)

    def test_five_edits(self):
        rows = [f"edit {document} 0 0 {document}" for document in "abcde"]
        for count in range(1, 5):
            text = "\n".join(["do x", *rows[:count], "at a"])
            self.assertEqual(read_log(text), (("do", ("x", tuple((d, 0, "", d) for d in "abcde"[:count])), ("a",)),))
        self.refuses("\n".join(["do x", *rows, "at a"]), 5)
        self.refuses("\n".join(["do x", *rows]), 5)
        self.refuses("\n".join(["do x", *rows[:4]]), 5)

    def test_documents_of_edits_that_do_not_rise(self):
        for first in ("a", "b", "aa", "z"):
            for second in ("a", "b", "aa", "z", "ab", "zz"):
                text = f"do x\nedit {first} 0 0 \nedit {second} 0 0 \nat a"
                if first < second:
                    self.assertEqual(len(read_log(text)[0][1][1]), 2)
                else:
                    self.refuses(text, 2)

    def test_digits_of_other_scripts(self):
        for digit in ("\u0661", "\u00b2", "\uff11", "\u0967", "1_0", " 1", "1.", "0x1", "+1"):
            self.refuses(f"do x\nedit a {digit} 0 abc\nat a", 1)
            self.refuses(f"do x\nedit a 0 {digit} abc\nat a", 1)

    def test_values_that_are_no_strings(self):
        things = [thing for thing in anything() if type(thing) is not str]
        for thing in (*things, EVENTS, list(EVENTS), b"open a one\nat a", ["open a one", "at a"], Hostile()):
            self.refuses(thing, 0)

    def test_strings_of_any_kind(self):
        for thing in anything():
            if type(thing) is str:
                self.check(thing)


class CallsTest(unittest.TestCase):

    def test_arguments_by_name(self):
        log = (("undo", "a", ("a",)), ("do", ("x", mark("a")), ("a",)))
        self.assertEqual(show_log(log=log), show_log(log))
        self.assertEqual(read_log(text=show_log(log)), log)
        self.assertIs(is_event(thing=log[0]), True)
        self.assertEqual(told(read_log, text=None), ("BadText", 0))


if __name__ == "__main__":
    unittest.main()
