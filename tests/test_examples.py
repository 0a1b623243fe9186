"""The examples of DOC.md, word for word, by the points in which they stand."""

import pathlib
import textwrap
import unittest

from crossundo import errors

DOC = pathlib.Path(__file__).resolve().parents[2] / "shared" / "DOC.md"

EXAMPLES = {
    5: ["""
    >>> from crossundo.edits import is_edits
    >>> is_edits((('a', 0, 'x', ''), ('a', 1, '', 'y')))
    False
"""],
    6: ["""
    >>> from crossundo.edits import apply
    >>> apply('hello', ('a', 1, 'el', 'ipp'))
    'hipplo'
""", """
    >>> from crossundo.edits import apply
    >>> apply('hello', ('a', 4, 'ox', ''))
    raises EditMismatch(document='a')
"""],
    7: ["""
    >>> from crossundo.edits import apply, inverse
    >>> edit = ('a', 1, 'el', 'ipp')
    >>> apply(apply('hello', edit), inverse(edit))
    'hello'
"""],
    8: ["""
    >>> from crossundo.heaps import up
    >>> heap = (('x', ('a', 'b')), ('y', ('b', 'c')), ('z', ('c',)))
    >>> up(heap, ('y',))
    ('y', 'z')
""", """
    >>> from crossundo.heaps import down, is_below, list_of
    >>> heap = (('x', ('a', 'b')), ('y', ('b', 'c')), ('z', ('c',)))
    >>> (down(heap, ('z',)), is_below(heap, 'x', 'z'), list_of(heap, 'b'))
    (('x', 'y', 'z'), True, ('x', 'y'))
"""],
    9: ["""
    >>> from crossundo.heaps import normal
    >>> normal((('t', ('b',)), ('s', ('b', 'c')), ('q', ('a',))))
    (('q', ('a',)), ('t', ('b',)), ('s', ('b', 'c')))
"""],
}


def outcome(text):
    """Run the rows of an example; return what its last one shows, and what it should show."""
    rows = textwrap.dedent(text).strip().split("\n")
    calls = [row.removeprefix(">>> ") for row in rows[:-1]]
    known = {}
    for call in calls[:-1]:
        exec(call, known)
    try:
        shown = repr(eval(calls[-1], known))
    except errors.UndoError as error:
        told = ", ".join(f"{name}={value!r}" for name, value in vars(error).items())
        shown = f"raises {type(error).__name__}({told})"
    return shown, rows[-1]


class ExamplesTest(unittest.TestCase):

    def test_every_example(self):
        for point, texts in EXAMPLES.items():
            for text in texts:
                shown, expected = outcome(text)
                self.assertEqual(shown, expected, point)

    @unittest.skipUnless(DOC.is_file(), "DOC.md is not here")
    def test_they_are_all_and_word_for_word(self):
        doc = DOC.read_text()
        for point, texts in EXAMPLES.items():
            body = doc.split(f"**[{point}]**")[1].split(f"**[{point + 1}]**")[0]
            self.assertEqual(body.count("\nExample:\n"), len(texts), point)
            for text in texts:
                self.assertIn(f"\nExample:\n{text}", body, point)


if __name__ == "__main__":
    unittest.main()
