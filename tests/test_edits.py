"""Edits: points [3], [5], [6] and [7]."""

import copy
import random
import unittest

from crossundo.edits import apply, fits, inverse, is_content, is_edit, is_edits, is_name
from crossundo.errors import EditMismatch
from tests.samples import Hostile, nested, other_kinds

EDIT = ("a", 0, "x", "y")


class Checks(unittest.TestCase):

    def accepts(self, function, thing):
        self.assertIs(function(thing), True, lambda: repr(thing))

    def refuses(self, function, thing):
        self.assertIs(function(thing), False)

    def refuses_other_kinds(self, function):
        for thing in other_kinds():
            self.refuses(function, thing)


class NameTest(Checks):

    def test_lengths(self):
        for length in range(12):
            self.assertIs(is_name("q" * length), 1 <= length <= 8, length)

    def test_each_letter(self):
        for letter in "abcdefghijklmnopqrstuvwxyz":
            self.accepts(is_name, letter)
            self.accepts(is_name, letter * 8)
        self.accepts(is_name, "azbycxdw")

    def test_a_character_outside_at_each_place(self):
        outside = ["A", "Z", "M", "0", "9", " ", "\n", "\t", "\0", "_", "-", "`", "{", "%", "\u00e9", "\u00df",
                   "\u00aa", "\u0430", "\uff41", "\U0001d41a", "\udc80"]
        for character in outside:
            for length in range(1, 9):
                for at in range(length):
                    name = "q" * at + character + "q" * (length - at - 1)
                    self.refuses(is_name, name)

    def test_a_line_feed_at_the_end(self):
        self.refuses(is_name, "abc\n")
        self.refuses(is_name, "\n")

    def test_other_kinds(self):
        self.refuses_other_kinds(is_name)


class ContentTest(Checks):

    def test_lengths(self):
        for length in (0, 1, 2, 8, 9, 399, 400):
            self.accepts(is_content, "x" * length)
        for length in (401, 402, 800, 5000):
            self.refuses(is_content, "x" * length)

    def test_every_character(self):
        for code in range(400):
            character = chr(code)
            good = 32 <= code <= 126 and character != "%"
            for content in (character, "ab" + character, character + "ab", "a" + character + "b"):
                self.assertIs(is_content(content), good, code)

    def test_the_edges(self):
        self.accepts(is_content, " ")
        self.accepts(is_content, "~")
        self.accepts(is_content, " ~" * 200)
        for character in ("\x1f", "\x7f", "%", "\n", "\t", "\r", "\u00e9", "\udc80", "\U0001d41a"):
            self.refuses(is_content, character)
            self.refuses(is_content, "x" * 399 + character)
            self.refuses(is_content, character + "x" * 399)

    def test_other_kinds(self):
        self.refuses_other_kinds(is_content)


class EditTest(Checks):

    def with_part(self, at, part):
        return EDIT[:at] + (part,) + EDIT[at + 1:]

    def test_ordinary(self):
        for edit in (EDIT, ("abcdefgh", 0, "", ""), ("z", 400, "same", "same"), ("a", 10 ** 30, "x" * 400, "y" * 400)):
            self.accepts(is_edit, edit)

    def test_document(self):
        for document in ("", "abcdefghi", "A", "a\n", "a b", "\u00e9", *other_kinds()):
            self.refuses(is_edit, self.with_part(0, document))

    def test_position(self):
        for position in (0, 1, 2, 399, 400, 401, 999, 1000):
            self.accepts(is_edit, self.with_part(1, position))
        for position in (-1, -2, -10 ** 5000, True, False, None, "0", "", b"0", (0,), [0], 1j, Hostile(), nested(list)):
            self.refuses(is_edit, self.with_part(1, position))

    def test_removed_and_inserted(self):
        for at in (2, 3):
            for content in ("", " ", "~", "x" * 400):
                self.accepts(is_edit, self.with_part(at, content))
            for content in ("x" * 401, "%", "\n", "a\x7f", "\x1f", "\u00e9", *other_kinds()):
                self.refuses(is_edit, self.with_part(at, content))

    def test_form(self):
        self.refuses(is_edit, list(EDIT))
        self.refuses(is_edit, dict.fromkeys(EDIT))
        self.refuses(is_edit, EDIT[:3])
        self.refuses(is_edit, EDIT[1:])
        self.refuses(is_edit, EDIT + ("",))
        self.refuses(is_edit, (EDIT,))
        self.refuses(is_edit, ())
        self.refuses(is_edit, "abcd")

    def test_other_kinds(self):
        self.refuses_other_kinds(is_edit)


class EditsTest(Checks):

    def together(self, *documents):
        return tuple((document, 0, "x", "y") for document in documents)

    def test_how_many(self):
        self.refuses(is_edits, ())
        self.accepts(is_edits, self.together("a"))
        self.accepts(is_edits, self.together("a", "b"))
        self.accepts(is_edits, self.together("a", "b", "c"))
        self.accepts(is_edits, self.together("a", "b", "c", "d"))
        self.refuses(is_edits, self.together("a", "b", "c", "d", "e"))
        self.refuses(is_edits, self.together("a", "b", "c", "d", "e", "f"))

    def test_ascending_as_python_sorts(self):
        self.accepts(is_edits, self.together("a", "aa", "ab", "b"))
        self.refuses(is_edits, self.together("b", "aa"))
        self.refuses(is_edits, self.together("aa", "a"))

    def test_not_ascending(self):
        documents = ("a", "b", "c", "d")
        for at in range(3):
            wrong = list(documents)
            wrong[at], wrong[at + 1] = wrong[at + 1], wrong[at]
            self.refuses(is_edits, self.together(*wrong))
        self.refuses(is_edits, self.together("d", "c", "b", "a"))
        self.refuses(is_edits, self.together("b", "a"))

    def test_a_document_twice(self):
        self.refuses(is_edits, self.together("a", "a"))
        self.refuses(is_edits, self.together("a", "b", "b"))
        self.refuses(is_edits, self.together("a", "b", "c", "c"))
        self.refuses(is_edits, self.together("a", "b", "a"))

    def test_form(self):
        self.refuses(is_edits, list(self.together("a", "b")))
        self.refuses(is_edits, EDIT)
        self.refuses(is_edits, "abcd")
        self.refuses(is_edits, {EDIT})
        self.refuses(is_edits, {EDIT: EDIT})

    def test_one_changed_inside(self):
        good = self.together("a", "b", "c", "d")
        changes = [list(EDIT), EDIT[:3], EDIT + ("",), None, True, "abcd", Hostile(),
                   ("", 0, "x", "y"), ("A", 0, "x", "y"), (7, 0, "x", "y")]
        for at in range(4):
            document = good[at][0]
            inside = [(document, -1, "x", "y"), (document, True, "x", "y"), (document, 0, "%", "y"),
                      (document, 0, "x", "y" * 401), (document, 0, "x", None)]
            for change in changes + inside:
                self.refuses(is_edits, good[:at] + (change,) + good[at + 1:])

    def test_other_kinds(self):
        self.refuses_other_kinds(is_edits)
        for thing in other_kinds():
            self.refuses(is_edits, (thing,))


class FitsAndApplyTest(unittest.TestCase):

    def check(self, content, position, removed):
        good = content.startswith(removed, position)
        for inserted in ("", "*", removed, "new piece"):
            edit = ("doc", position, removed, inserted)
            self.assertIs(fits(content, edit), good, (content, edit))
            if good:
                expected = content[:position] + inserted + content[position + len(removed):]
                self.assertEqual(apply(content, edit), expected)
            else:
                self.check_mismatch(content, edit)

    def check_mismatch(self, content, edit):
        with self.assertRaises(EditMismatch) as caught:
            apply(content, edit)
        self.assertIs(type(caught.exception), EditMismatch)
        self.assertEqual(caught.exception.document, edit[0])

    def similar(self, piece):
        return [piece + "z", "z" + piece, piece[:-1] + "z", piece.upper(), piece[::-1], piece[1:], piece * 2]

    def test_each_position_and_piece(self):
        for content in ("", "h", "hello", "aaaa", "abab ~", " "):
            for position in range(len(content) + 3):
                self.check(content, position, "")
                for length in range(1, len(content) + 2):
                    piece = content[position:position + length]
                    self.check(content, position, piece)
                    for other in self.similar(piece):
                        self.check(content, position, other)

    def test_the_edges_in_words(self):
        self.assertIs(fits("", ("a", 0, "", "")), True)
        self.assertIs(fits("", ("a", 1, "", "")), False)
        self.assertIs(fits("ab", ("a", 2, "", "c")), True)
        self.assertIs(fits("ab", ("a", 3, "", "c")), False)
        self.assertIs(fits("ab", ("a", 1, "b", "")), True)
        self.assertIs(fits("ab", ("a", 1, "bc", "")), False)
        self.assertIs(fits("ab", ("a", 2, "b", "")), False)
        self.assertIs(fits("ab", ("a", 10 ** 30, "", "")), False)
        self.assertEqual(apply("ab", ("a", 2, "", "c")), "abc")
        self.assertEqual(apply("ab", ("a", 0, "", "c")), "cab")
        self.assertEqual(apply("ab", ("a", 0, "ab", "")), "")
        self.assertEqual(apply("ab", ("a", 1, "b", "b")), "ab")
        self.assertEqual(apply("abab", ("a", 2, "ab", "x")), "abx")

    def test_a_result_beyond_400_characters(self):
        full = "x" * 400
        longer = apply(full, ("a", 400, "", "y"))
        self.assertEqual(longer, full + "y")
        double = apply(full, ("a", 200, "", "y" * 400))
        self.assertEqual(double, "x" * 200 + "y" * 400 + "x" * 200)
        self.assertIs(fits(double, ("a", 800, "", "z")), True)
        self.assertIs(fits(double, ("a", 801, "", "z")), False)
        self.assertEqual(apply(double, ("a", 200, "y" * 400, "")), full)

    def test_the_document_of_the_mismatch(self):
        for document in ("a", "b", "zebra", "abcdefgh"):
            self.check_mismatch("hello", (document, 4, "ox", ""))
            self.check_mismatch("hello", (document, 6, "", "o"))


class InverseTest(unittest.TestCase):

    def test_exchanges_removed_and_inserted(self):
        self.assertEqual(inverse(("a", 3, "old", "new")), ("a", 3, "new", "old"))
        self.assertEqual(inverse(("b", 0, "", "new")), ("b", 0, "new", ""))
        self.assertEqual(inverse(("c", 7, "", "")), ("c", 7, "", ""))

    def test_twice_is_the_edit(self):
        for edit in (EDIT, ("b", 9, "", "z"), ("c", 2, "z", ""), ("d", 1, "q", "q")):
            self.assertEqual(inverse(inverse(edit)), edit)
            self.assertIs(is_edit(inverse(edit)), True)

    def test_undoes_at_each_position(self):
        content = "hello"
        for start in range(6):
            for end in range(start, 6):
                for inserted in ("", "l", "ipp"):
                    edit = ("a", start, content[start:end], inserted)
                    self.assertEqual(apply(apply(content, edit), inverse(edit)), content)

    def random_edit(self, source, content):
        start = source.randint(0, len(content))
        end = source.randint(start, min(len(content), start + 5))
        inserted = "".join(source.choice("ab ~") for _ in range(source.randint(0, 6)))
        return ("a", start, content[start:end], inserted)

    def test_a_chain_leads_back_through_all_contents(self):
        for seed in range(20):
            source = random.Random(seed)
            contents = ["first"]
            edits = []
            for _ in range(40):
                edits.append(self.random_edit(source, contents[-1]))
                contents.append(apply(contents[-1], edits[-1]))
            content = contents[-1]
            for edit, before in zip(edits[::-1], contents[-2::-1]):
                content = apply(content, inverse(edit))
                self.assertEqual(content, before)


class CallsTest(unittest.TestCase):

    def test_arguments_by_name(self):
        self.assertIs(is_name(thing="a"), True)
        self.assertIs(is_content(thing=" "), True)
        self.assertIs(is_edit(thing=EDIT), True)
        self.assertIs(is_edits(thing=(EDIT,)), True)
        self.assertIs(fits(edit=EDIT, content="x"), True)
        self.assertEqual(apply(edit=EDIT, content="x"), "y")
        self.assertEqual(inverse(edit=EDIT), ("a", 0, "y", "x"))
        with self.assertRaises(EditMismatch):
            apply(edit=EDIT, content="z")

    def test_only_plain_values_are_returned(self):
        self.assertIs(type(apply("x", EDIT)), str)
        self.assertIs(type(inverse(EDIT)), tuple)

    def test_no_argument_is_changed(self):
        for thing in (["a"], [EDIT], {"a": [1]}, {"a"}, [["a", 0, "x", "y"]], bytearray(b"a"), (["a"], 0, "x", "y"),
                      ([EDIT],), ("a", 0, ["x"], "y")):
            before = copy.deepcopy(thing)
            for function in (is_name, is_content, is_edit, is_edits):
                function(thing)
                self.assertEqual(thing, before)

    def test_an_iterator_is_not_used_up(self):
        letters = iter("abc")
        for function in (is_name, is_content, is_edit, is_edits):
            function(letters)
        self.assertEqual(list(letters), ["a", "b", "c"])

    def test_the_same_call_returns_the_same(self):
        for _ in range(3):
            self.assertEqual(apply("hello", ("a", 1, "el", "ipp")), "hipplo")
            self.assertIs(is_edits((EDIT,)), True)


if __name__ == "__main__":
    unittest.main()
