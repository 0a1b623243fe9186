"""The examples of DOC.md, word for word, by the points in which they stand, and those of README.md."""

import doctest
import pathlib
import textwrap
import unittest

from crossundo import errors

DOC = pathlib.Path(__file__).resolve().parents[2] / "shared" / "DOC.md"
README = pathlib.Path(__file__).resolve().parents[1] / "README.md"

EXAMPLES = {
    5: ["""
    >>> from crossundo.edits import is_edits
    >>> is_edits((('a', 0, 'x', ''), ('a', 1, '', 'y')))
    False
"""],
    6: ["""
    >>> from crossundo.edits import apply
    >>> apply('hello', ('a', 1, 'el', 'ipp'))
    'hipplo'
""", """
    >>> from crossundo.edits import apply
    >>> apply('hello', ('a', 4, 'ox', ''))
    raises EditMismatch(document='a')
"""],
    7: ["""
    >>> from crossundo.edits import apply, inverse
    >>> edit = ('a', 1, 'el', 'ipp')
    >>> apply(apply('hello', edit), inverse(edit))
    'hello'
"""],
    8: ["""
    >>> from crossundo.heaps import up
    >>> heap = (('x', ('a', 'b')), ('y', ('b', 'c')), ('z', ('c',)))
    >>> up(heap, ('y',))
    ('y', 'z')
""", """
    >>> from crossundo.heaps import down, is_below, list_of
    >>> heap = (('x', ('a', 'b')), ('y', ('b', 'c')), ('z', ('c',)))
    >>> (down(heap, ('z',)), is_below(heap, 'x', 'z'), list_of(heap, 'b'))
    (('x', 'y', 'z'), True, ('x', 'y'))
"""],
    9: ["""
    >>> from crossundo.heaps import normal
    >>> normal((('t', ('b',)), ('s', ('b', 'c')), ('q', ('a',))))
    (('q', ('a',)), ('t', ('b',)), ('s', ('b', 'c')))
"""],
    10: ["""
    >>> from crossundo.cuts import undo_set
    >>> heap = (('x', ('a', 'b')), ('y', ('b', 'c')), ('z', ('c',)))
    >>> undo_set(heap, ('x', 'y', 'z'), 'a')
    ('z', 'y', 'x')
""", """
    >>> from crossundo.cuts import redo_set
    >>> heap = (('x', ('a', 'b')), ('y', ('b', 'c')), ('z', ('c',)))
    >>> redo_set(heap, (), 'c')
    ('x', 'y')
"""],
    11: ["""
    >>> from crossundo.cuts import cuts_of
    >>> cuts_of((('x', ('a', 'b')), ('y', ('b',)), ('z', ('c',))))
    ((), ('x',), ('x', 'y'), ('x', 'y', 'z'), ('x', 'z'), ('z',))
""", """
    >>> from crossundo.cuts import presses_to
    >>> heap = (('x', ('a', 'b')), ('y', ('b', 'c')), ('z', ('c',)))
    >>> presses_to(heap, ('x', 'y', 'z'), ('x',))
    (('undo', 'c'), ('undo', 'b'))
"""],
    12: ["""
    >>> from crossundo.cuts import independent
    >>> heap = (('x', ('a', 'b')), ('y', ('b', 'c')), ('z', ('c',)))
    >>> independent(heap, ('x', 'y', 'z'), ('undo', 'a'), ('undo', 'c'))
    False
"""],
    13: ["""
    >>> from crossundo.workspace import Workspace
    >>> w = Workspace()
    >>> w.open_document('b', 'two')
    >>> w.open_document('a')
    >>> (w.documents(), w.content('b'), w.content('a'))
    (('a', 'b'), 'two', '')
"""],
    14: ["""
    >>> from crossundo.workspace import Workspace
    >>> w = Workspace()
    >>> w.open_document('a', 'one')
    >>> w.open_document('b', 'two')
    >>> w.open_document('c', 'six')
    >>> w.do('x', (('a', 0, 'one', 'ONE'), ('b', 0, 'two', 'TWO')))
    >>> w.undo('b')
    >>> (w.do('v', (('a', 3, '', '.'),)), w.content('a'), w.content('b'))
    (('x',), 'one.', 'two')
"""],
    15: ["""
    >>> from crossundo.workspace import Workspace
    >>> w = Workspace()
    >>> w.open_document('a', 'one')
    >>> w.open_document('b', 'two')
    >>> w.open_document('c', 'six')
    >>> w.do('x', (('a', 0, 'one', 'ONE'), ('b', 0, 'two', 'TWO')))
    >>> w.do('y', (('b', 3, '', '!'), ('c', 0, 's', 'm')))
    >>> w.do('z', (('c', 3, '', '?'),))
    >>> w.undo('a')
    >>> w.redo('c')
    >>> (w.applied('c'), w.undone('c'), w.content('b'), w.content('c'))
    (('y',), ('z',), 'TWO!', 'mix')
""", """
    >>> from crossundo.workspace import Workspace
    >>> w = Workspace()
    >>> w.open_document('a')
    >>> w.redo('a')
    raises NothingToRedo(document='a')
"""],
    16: ["""
    >>> from crossundo.workspace import Workspace
    >>> w = Workspace()
    >>> w.open_document('a', 'one')
    >>> w.open_document('b', 'two')
    >>> w.open_document('c', 'six')
    >>> w.do('x', (('a', 0, 'one', 'ONE'), ('b', 0, 'two', 'TWO')))
    >>> w.do('y', (('b', 3, '', '!'), ('c', 0, 's', 'm')))
    >>> w.do('z', (('c', 3, '', '?'),))
    >>> (w.take_back('y'), w.cut(), w.restore('z'), w.heap())
    (('z', 'y'), ('x',), ('y', 'z'), (('x', ('a', 'b')), ('y', ('b', 'c')), ('z', ('c',))))
"""],
    17: ["""
    >>> from crossundo.workspace import Workspace
    >>> w = Workspace()
    >>> w.open_document('a', 'one')
    >>> w.open_document('b', 'two')
    >>> w.open_document('c', 'six')
    >>> w.do('x', (('a', 0, 'one', 'ONE'), ('b', 0, 'two', 'TWO')))
    >>> w.do('y', (('b', 3, '', '!'), ('c', 0, 's', 'm')))
    >>> w.do('z', (('c', 3, '', '?'),))
    >>> w.undo('a')
    >>> from crossundo.previews import survivors, would_delete
    >>> (would_delete(w, ('b',)), survivors(w, ('c',)))
    (('x', 'y', 'z'), ('x',))
"""],
    18: ["""
    >>> from crossundo.workspace import Workspace
    >>> w = Workspace()
    >>> w.open_document('a', 'one')
    >>> w.open_document('b', 'two')
    >>> w.open_document('c', 'six')
    >>> w.do('x', (('a', 0, 'one', 'ONE'), ('b', 0, 'two', 'TWO')))
    >>> w.save('b')
    >>> w.undo('a')
    >>> before = w.is_clean('b')
    >>> w.redo('b')
    >>> (before, w.is_clean('b'), w.is_clean('a'))
    (False, True, False)
"""],
    19: ["""
    >>> from crossundo.workspace import Workspace
    >>> w = Workspace()
    >>> w.open_document('a', 'one')
    >>> w.open_document('b', 'two')
    >>> w.open_document('c', 'six')
    >>> w.do('x', (('a', 0, 'one', 'ONE'), ('b', 0, 'two', 'TWO')))
    >>> w.do('y', (('b', 3, '', '!'), ('c', 0, 's', 'm')))
    >>> w.do('z', (('c', 3, '', '?'),))
    >>> w.undo('c')
    >>> (w.close('b'), w.heap(), w.applied('a'), w.undone('c'))
    ((('x', 'y'), ()), (('z', ('c',)),), ('x',), ('z',))
"""],
    20: ["""
    >>> from crossundo.workspace import Workspace
    >>> w = Workspace()
    >>> w.open_document('a', 'one')
    >>> w.open_document('b', 'two')
    >>> w.open_document('c', 'six')
    >>> w.do('x', (('a', 0, 'one', 'ONE'), ('b', 0, 'two', 'TWO')))
    >>> w.undo('b')
    >>> w.log()[3:]
    (('do', ('x', (('a', 0, 'one', 'ONE'), ('b', 0, 'two', 'TWO'))), ('a', 'b')), ('undo', 'b', ('a', 'b')))
"""],
    21: ["""
    >>> from crossundo.workspace import Workspace
    >>> w = Workspace()
    >>> w.open_document('a', 'one')
    >>> w.open_document('b', 'two')
    >>> w.open_document('c', 'six')
    >>> w.do('x', (('a', 0, 'one', 'ONE'), ('b', 0, 'two', 'TWO')))
    >>> w.save('b')
    >>> w.undo('a')
    >>> w.journal('b')[2:]
    ((('save', 'b', ('b',)), (('b', 2),)), (('undo', 'a', ('a', 'b')), (('a', 2), ('b', 3))))
"""],
    22: ["""
    >>> from crossundo.workspace import Workspace
    >>> w = Workspace()
    >>> w.open_document('a', 'one')
    >>> w.open_document('b', 'two')
    >>> w.open_document('c', 'six')
    >>> w.do('x', (('a', 0, 'one', 'ONE'), ('b', 0, 'two', 'TWO')))
    >>> from crossundo.replaying import replay
    >>> replay(w.log()).state() == w.state()
    True
""", """
    >>> from crossundo.replaying import replay
    >>> replay((('open', ('a', ''), ('a',)), ('undo', 'a', ('a',))))
    raises BadLog(number=1)
"""],
    23: ["""
    >>> from crossundo.logs import alike, difference
    >>> one = (('save', 'a', ('a',)), ('save', 'b', ('b',)))
    >>> (alike(one, one[::-1]), difference(one, one[:1]))
    (True, ('b', 0))
"""],
    24: ["""
    >>> from crossundo.workspace import Workspace
    >>> w = Workspace()
    >>> w.open_document('a', 'one')
    >>> w.open_document('b', 'two')
    >>> w.open_document('c', 'six')
    >>> w.do('x', (('a', 0, 'one', 'ONE'), ('b', 0, 'two', 'TWO')))
    >>> w.undo('a')
    >>> from crossundo.recovery import journals_of, kept
    >>> a, b, c = journals_of(w)
    >>> kept((a, (b[0], b[1][:2]), c))
    (('a', 2), ('b', 2), ('c', 1))
"""],
    25: ["""
    >>> from crossundo.workspace import Workspace
    >>> w = Workspace()
    >>> w.open_document('a', 'one')
    >>> w.open_document('b', 'two')
    >>> w.open_document('c', 'six')
    >>> w.do('x', (('a', 0, 'one', 'ONE'), ('b', 0, 'two', 'TWO')))
    >>> w.undo('a')
    >>> from crossundo.recovery import journals_of, recover
    >>> a, b, c = journals_of(w)
    >>> recover((a, (b[0], b[1][:2]), c)).content('b')
    'TWO'
"""],
    27: ["""
    >>> from crossundo.texts import show_log
    >>> show_log((('open', ('a', 'one'), ('a',)), ('do', ('x', (('a', 0, 'one', 'two'),)), ('a',))))
    'open a one\\nat a\\ndo x\\nedit a 0 3 onetwo\\nat a'
"""],
    26: ["""
    >>> from crossundo.workspace import Workspace
    >>> w = Workspace()
    >>> w.open_document('a', 'one')
    >>> w.open_document('b', 'two')
    >>> w.open_document('c', 'six')
    >>> w.do('x', (('a', 0, 'one', 'ONE'), ('b', 0, 'two', 'TWO')))
    >>> w.undo('a')
    >>> from crossundo.recovery import journals_of
    >>> from crossundo.losses import loss, shows_loss
    >>> a, b, c = journals_of(w)
    >>> cut_off = (a, (b[0], b[1][:2]), c)
    >>> (shows_loss(cut_off, 'a', 2, (('a', 2), ('b', 2))), loss(cut_off, 'a', 1))
    (True, None)
"""],
    28: ["""
    >>> from crossundo.shell import Shell
    >>> s = Shell()
    >>> s.run('open a one')
    >>> s.run('do x\\nedit a 0 3 onetwo')
    >>> s.run('undo a')
    >>> s.run('list a')
    '- | x'
"""],
    29: ["""
    >>> from crossundo.routes import shortest
    >>> heap = (('x', ('a', 'b')), ('y', ('b', 'c')), ('z', ('c',)))
    >>> shortest(heap, ('x', 'y', 'z'), ())
    (('undo', 'a'),)
"""],
    30: ["""
    >>> from crossundo.merging import merge, past
    >>> base = (('open', ('a', ''), ('a',)), ('open', ('b', ''), ('b',)))
    >>> one = base + (('save', 'a', ('a',)),)
    >>> other = base + (('save', 'b', ('b',)),)
    >>> (past(one, other), merge(one, other)[2:])
    ((('a', 1), ('b', 1)), (('save', 'a', ('a',)), ('save', 'b', ('b',))))
""", """
    >>> from crossundo.merging import merge
    >>> base = (('open', ('a', ''), ('a',)),)
    >>> merge(base + (('save', 'a', ('a',)),), base + (('close', 'a', ('a',)),))
    raises Conflict(document='a')
"""],
}


def outcome(text):
    """Run the rows of an example; return what its last one shows, and what it should show."""
    rows = textwrap.dedent(text).strip().split("\n")
    calls = [row.removeprefix(">>> ") for row in rows[:-1]]
    known = {}
    for call in calls[:-1]:
        exec(call, known)
    try:
        shown = repr(eval(calls[-1], known))
    except errors.UndoError as error:
        told = ", ".join(f"{name}={value!r}" for name, value in vars(error).items())
        shown = f"raises {type(error).__name__}({told})"
    return shown, rows[-1]


class ExamplesTest(unittest.TestCase):

    def test_every_example(self):
        for point, texts in EXAMPLES.items():
            for text in texts:
                shown, expected = outcome(text)
                self.assertEqual(shown, expected, point)

    @unittest.skipUnless(DOC.is_file(), "DOC.md is not here")
    def test_they_are_all_and_word_for_word(self):
        doc = DOC.read_text()
        for point, texts in EXAMPLES.items():
            body = doc.split(f"**[{point}]**")[1].split(f"**[{point + 1}]**")[0]
            self.assertEqual(body.count("\nExample:\n"), len(texts), point)
            for text in texts:
                self.assertIn(f"\nExample:\n{text}", body, point)

    def test_the_examples_of_the_readme(self):
        found = doctest.testfile(str(README), module_relative=False)
        self.assertGreater(found.attempted, 30)
        self.assertEqual(found.failed, 0)


if __name__ == "__main__":
    unittest.main()
