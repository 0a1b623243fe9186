"""The shell: point [28], and guarantee (h) of point [4]."""

import copy
import random
import re
import unittest

from crossundo.errors import BadCommand
from crossundo.shell import Shell
from crossundo.texts import read_log, show_log
from crossundo.workspace import Workspace
from tests.samples import BUSY, CHANGES, CONTENT, DOCUMENTS, NAME, anything, bad_row, drawn_calls, mark, told

LINE = re.compile(f"open {NAME} {CONTENT}|(undo|redo|back|restore|save|close|forget|show|list) {NAME}|log")
LINES = ("open d four", "open e ", "do v\nedit a 0 0 !", "do w\nedit a 0 1 !\nedit b 0 0 one two \nedit c 0 0 ",
         "undo a", "redo a", "back x", "restore x", "save a", "close b", "forget a", "show a", "list a", "log")


def is_command(line):
    """Return whether a string is a command, by the words of point [28]."""
    if line.startswith("do "):
        rows = line.split("\n")[1:]
        return all(row.startswith("edit ") for row in rows) and bad_row(line + "\nat a") is None
    return LINE.fullmatch(line) is not None


def line_of(method, arguments):
    """Return the line that asks for a call."""
    word = {"open_document": "open", "take_back": "back"}.get(method, method)
    if method == "do":
        rows = [f"edit {document} {at} {len(removed)} {removed + inserted}" for document, at, removed, inserted in arguments[1]]
        return "\n".join([f"do {arguments[0]}", *rows])
    return " ".join([word, *arguments])


def joined(names):
    return " ".join(names) if names else "-"


def expected_answer(method, result):
    """Return what the shell answers where the method returns or raises this."""
    if result[0] != "returned":
        return result
    if method in ("open_document", "save"):
        return "returned", "ok"
    if method == "close":
        return "returned", f"{joined(result[1][0])} / {joined(result[1][1])}"
    return "returned", joined(result[1])


def list_answer(workspace, document):
    result = told(workspace.applied, document)
    if result[0] != "returned":
        return result
    star = " *" if not workspace.is_clean(document) else ""
    return "returned", joined(result[1]) + " | " + joined(workspace.undone(document)) + star


def started():
    """Return a shell and a workspace after the same calls."""
    shell = Shell()
    workspace = Workspace()
    for document in "abc":
        shell.run(f"open {document} {document}")
        workspace.open_document(document, document)
    shell.run("do x\nedit a 0 0 !\nedit b 0 0 !")
    workspace.do("x", mark("a", "b"))
    return shell, workspace


def seen(shell):
    """Return all that a shell tells without a change."""
    return shell.run("log"), [told(shell.run, f"{word} {document}") for word in ("show", "list") for document in DOCUMENTS]


class CommandsTest(unittest.TestCase):

    def compare(self, shell, workspace):
        for document in DOCUMENTS:
            self.assertEqual(told(shell.run, f"show {document}"), told(workspace.content, document))
            self.assertEqual(told(shell.run, f"list {document}"), list_answer(workspace, document))
        self.assertEqual(shell.run("log"), show_log(workspace.log()))

    def run_session(self, seed, count, documents, weights):
        shell = Shell()
        workspace = Workspace()
        answers = set()
        for at, (method, arguments, _, _) in enumerate(drawn_calls(seed, count, documents, weights)):
            expected = expected_answer(method, told(getattr(workspace, method), *arguments))
            line = line_of(method, arguments)
            self.assertTrue(is_command(line), line)
            answer = told(shell.run, line)
            self.assertEqual(answer, expected, line)
            self.assertIs(type(answer[1]), str)
            answers.add((method, answer[0]))
            if at % 5 == 0:
                self.compare(shell, workspace)
        self.compare(shell, workspace)
        return answers

    def test_drawn_calls(self):
        answers = set()
        for seed in range(40):
            answers |= self.run_session(seed, 60, 2 + seed % 5, CHANGES)
        for key in (("do", "returned"), ("undo", "returned"), ("redo", "returned"), ("take_back", "returned"),
                    ("restore", "returned"), ("save", "returned"), ("close", "returned"), ("forget", "returned"),
                    ("open_document", "returned"), ("open_document", "AlreadyOpen"), ("do", "EditMismatch"),
                    ("do", "DuplicateName"), ("undo", "NothingToUndo"), ("redo", "NothingToRedo"),
                    ("forget", "NothingToForget"), ("take_back", "AlreadyUndone"), ("restore", "AlreadyDone"),
                    ("take_back", "NoAction"), ("restore", "NoAction"), ("undo", "NoDocument")):
            self.assertIn(key, answers)

    def test_up_to_the_limits(self):
        self.run_session(1, 220, 8, BUSY)

    def test_by_hand(self):
        shell = Shell()
        for line, answer in (
                ("log", ""), ("open a one", "ok"), ("open b ", "ok"), ("open c  two  words ", "ok"), ("show c", " two  words "),
                ("show b", ""), ("list a", "- | -"), ("do x\nedit a 0 3 oneONE\nedit b 0 0 new", "-"), ("list a", "x | - *"),
                ("do y\nedit b 3 0 !", "-"), ("do z\nedit b 4 0 ?", "-"), ("list b", "x y z | - *"), ("save b", "ok"),
                ("list b", "x y z | -"), ("undo b", "z"), ("list b", "x y | z *"), ("undo a", "y x"), ("list b", "- | x y z *"),
                ("list a", "- | x"), ("redo b", "x"), ("restore z", "y z"), ("back y", "z y"), ("do v\nedit b 3 0 .", "y z"),
                ("show a", "ONE"), ("show b", "new."), ("forget b", "x"), ("back v", "v"), ("list b", "x | v *"),
                ("do u\nedit c 0 0 ", "-"), ("close b", "- / v"), ("close c", "u / -"), ("close a", "- / -")):
            self.assertEqual(shell.run(line), answer, line)
        self.assertEqual(told(shell.run, "show a"), ("NoDocument", "a"))
        self.assertEqual(told(shell.run, "list a"), ("NoDocument", "a"))
        self.assertEqual(len(read_log(shell.run("log"))), 19)

    def test_what_the_methods_raise(self):
        shell, _ = started()
        for line, result in (
                ("open a one", ("AlreadyOpen", "a")), ("undo h", ("NoDocument", "h")), ("redo a", ("NothingToRedo", "a")),
                ("undo c", ("NothingToUndo", "c")), ("forget c", ("NothingToForget", "c")), ("back n", ("NoAction", "n")),
                ("restore n", ("NoAction", "n")), ("restore x", ("AlreadyDone", "x")), ("save h", ("NoDocument", "h")),
                ("close h", ("NoDocument", "h")), ("show h", ("NoDocument", "h")), ("list h", ("NoDocument", "h")),
                ("do x\nedit a 0 0 !", ("DuplicateName", "x")), ("do y\nedit h 0 0 !", ("NoDocument", "h")),
                ("do y\nedit a 0 1 ?", ("EditMismatch", "a")), ("do y\nedit a 999 0 ?", ("EditMismatch", "a")),
                (f"do y\nedit a 0 0 {'z' * 400}", ("BadContent", "z" * 400 + "!a")), ("redo h", ("NoDocument", "h")),
                ("forget h", ("NoDocument", "h"))):
            before = seen(shell)
            self.assertEqual(told(shell.run, line), result)
            self.assertEqual(seen(shell), before)
        shell.run("undo a")
        self.assertEqual(told(shell.run, "back x"), ("AlreadyUndone", "x"))

    def test_contents(self):
        for content in ("", " ", "x" * 400, "log", "undo a", "  two  ", "~!\"#$&'()*+,-./:;<=>?@[]^_`{|}\\"):
            shell = Shell()
            self.assertEqual(shell.run(f"open a {content}"), "ok")
            self.assertEqual(shell.run("show a"), content)
            self.assertEqual(shell.run("log"), f"open a {content}\nat a")

    def test_two_shells_are_apart(self):
        one, other = Shell(), Shell()
        one.run("open a one")
        self.assertEqual(told(other.run, "show a"), ("NoDocument", "a"))
        self.assertEqual(other.run("log"), "")
        other.run("open a other")
        one.run("do x\nedit a 0 0 !")
        self.assertEqual((one.run("show a"), other.run("show a")), ("!one", "other"))
        self.assertEqual(other.run("list a"), "- | -")

    def test_asking_changes_nothing(self):
        shell, _ = started()
        before = seen(shell)
        self.assertEqual(seen(shell), before)
        self.assertEqual(shell.run("log").count("\n"), 9)


class NoCommandsTest(unittest.TestCase):

    def refuses(self, shell, line):
        with self.assertRaises(BadCommand) as caught:
            shell.run(line)
        self.assertIs(type(caught.exception), BadCommand)
        self.assertEqual(list(vars(caught.exception)), ["line"])
        self.assertTrue(caught.exception.line is line)

    def check(self, line):
        """Compare with the words of the document; return whether the line is a command."""
        shell, _ = started()
        if is_command(line):
            self.assertNotEqual(told(shell.run, line)[0], "BadCommand", line)
            return True
        before = seen(shell)
        self.refuses(shell, line)
        self.assertEqual(seen(shell), before)
        return False

    def check_all(self, lines):
        found = [self.check(line) for line in lines]
        self.assertIn(True, found)
        self.assertIn(False, found)

    def test_all_commands_are_commands(self):
        for line in LINES:
            self.assertTrue(self.check(line), line)

    def test_a_word_too_few_too_many_or_another_one(self):
        changed = []
        words = ("", "a", "x", "zz", "A", "abcdefghi", "0", "1", "00", "01", "1000", "400", "-1", "undo", "do", "edit", "at", "log",
                 "open", "take_back", "back", "show", "list", "one", "%", "\u0661")
        for line in LINES:
            rows = line.split("\n")
            for at, row in enumerate(rows):
                parts = row.split(" ")
                for number in range(len(parts)):
                    for other in (parts[:number] + parts[number + 1:], parts[:number + 1] + parts[number:],
                                  *(parts[:number] + [word] + parts[number + 1:] for word in words)):
                        changed.append("\n".join(rows[:at] + [" ".join(other)] + rows[at + 1:]))
                changed += ["\n".join(rows[:at] + [f"{row} {word}"] + rows[at + 1:]) for word in words]
        self.check_all(changed)

    def test_other_blanks(self):
        changed = []
        for line in LINES:
            for at, sign in enumerate(line):
                if sign == " ":
                    changed += [line[:at] + other + line[at + 1:] for other in ("", "  ", "\t", "\n", "\u00a0", "\r")]
                if sign == "\n":
                    changed += [line[:at] + other + line[at + 1:] for other in ("", " ", " \n", "\n ", "\r\n", "\r", "\n\n")]
            changed += [" " + line, line + " ", "\t" + line, line + "\t", line + "\n", "\n" + line, line + "\r", line + "\n\n"]
        self.check_all(changed)

    def test_rows_left_out_doubled_exchanged_put_in(self):
        changed = []
        for line in LINES:
            rows = line.split("\n")
            for at in range(len(rows)):
                changed += ["\n".join(other) for other in (
                    rows[:at] + rows[at + 1:], rows[:at + 1] + rows[at:], rows[:at] + rows[at:at + 2][::-1] + rows[at + 2:],
                    rows[:at + 1] + [""] + rows[at + 1:], rows[:at + 1] + ["at a"] + rows[at + 1:], rows + ["undo a"],
                    rows[:at + 1] + ["edit d 0 0 "] + rows[at + 1:])]
        self.check_all(changed)

    def test_a_sign_changed(self):
        changed = []
        for seed, line in enumerate(LINES):
            source = random.Random(seed)
            for at in range(len(line)):
                for sign in source.sample("abz019 ~%\n\t\r\0AZ_-\u00e9\u0661\x7f\x85\u2028", 6):
                    changed += [line[:at] + sign + line[at + 1:], line[:at] + sign + line[at:], line[:at] + line[at + 1:]]
        self.check_all(changed)

    def test_by_hand(self):
        for line in ("", " ", "\n", "log ", " log", "log\n", "LOG", "log a", "undo", "undo ", "undo  a", "undo a ", "undo a b", "Undo a",
                     "undo A", "undo abcdefghi", "open", "open a", "open  a", "open a%", "open A x", "open a one\nat a", "open a\none",
                     "do x", "do x\n", "do x\nat a", "do x\nedit a 0 0 \nat a", "do x\nedit a 0 0", "do x edit a 0 0 ", "do\nedit a 0 0 ",
                     "do x\nedit a 0 2 x", "do x\nedit b 0 0 \nedit a 0 0 ", "do x\nedit a 0 0 \nedit a 0 0 ", "do X\nedit a 0 0 ",
                     "do x\nedit a 0 0 \n", "do x\n\nedit a 0 0 ", "do x\nedit a 00 0 ", "do x\nedit a 1000 0 ", "do x \nedit a 0 0 ",
                     "take_back x", "back", "back x y", "back_x", "edit a 0 0 ", "at a", "content a", "applied a", "heap", "show", "list",
                     "show a b", "list a\n", "documents", "state", "undo\ta", "save a\nsave b", "close a close b", f"open a {'x' * 401}",
                     f"do y\nedit a 0 0 {'x' * 401}", "journal a", "is_clean a", "open_document a one", "restore", "forget", "exit"):
            self.assertFalse(self.check(line), line)
        rows = [f"edit {document} 0 0 " for document in "abcde"]
        self.assertTrue(self.check("\n".join(["do y", *rows[:4]])))
        self.assertFalse(self.check("\n".join(["do y", *rows])))

    def test_values_that_are_no_strings(self):
        shell, _ = started()
        before = seen(shell)
        things = [thing for thing in anything() if type(thing) is not str]
        for thing in (*things, b"log", ("log",), ["log"], ("undo", "a")):
            self.refuses(shell, thing)
        self.assertEqual(seen(shell), before)

    def test_strings_of_any_kind(self):
        for thing in anything():
            if type(thing) is str:
                self.check(thing)

    def test_what_is_passed_in_stays(self):
        thing = ["undo", ["a"]]
        before = copy.deepcopy(thing)
        self.refuses(Shell(), thing)
        self.assertEqual(thing, before)


class CallsTest(unittest.TestCase):

    def test_the_argument_by_name(self):
        shell = Shell()
        self.assertEqual(shell.run(line="open a one"), "ok")
        self.assertEqual(shell.run(line="show a"), "one")
        self.assertEqual(told(shell.run, line=None), ("BadCommand", None))

    def test_run_stands_in_the_class_itself(self):
        self.assertIn("run", vars(Shell))


if __name__ == "__main__":
    unittest.main()
