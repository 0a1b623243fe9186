"""Names, contents and edits: the smallest parts of the history."""

from crossundo.errors import EditMismatch

MOST_LETTERS = 8
MOST_CHARACTERS = 400
MOST_DOCUMENTS = 4
PERCENT = 37


def is_name(thing):
    """Return whether any object is a name: 1 to 8 letters from a to z."""
    if not isinstance(thing, str) or not 1 <= len(thing) <= MOST_LETTERS:
        return False
    return all("a" <= letter <= "z" for letter in thing)


def is_content(thing):
    """Return whether any object is a content: at most 400 characters from the blank to the tilde, no percent sign."""
    if not isinstance(thing, str) or len(thing) > MOST_CHARACTERS:
        return False
    return all(" " <= character <= "~" and ord(character) != PERCENT for character in thing)


def is_pair(thing):
    """Return whether any object is a tuple of two."""
    return isinstance(thing, tuple) and len(thing) == 2


def is_names(thing):
    """Return whether any object is an ascending tuple of names."""
    return isinstance(thing, tuple) and all(is_name(part) for part in thing) and is_ascending(thing)


def is_position(thing):
    """Return whether any object is a whole number from 0."""
    # Python counts True and False among the integers; the document does not.
    return isinstance(thing, int) and not isinstance(thing, bool) and thing >= 0


def is_edit(thing):
    """Return whether any object is an edit: (document, position, removed, inserted)."""
    if not isinstance(thing, tuple) or len(thing) != 4:
        return False
    document, position, removed, inserted = thing
    return is_name(document) and is_position(position) and is_content(removed) and is_content(inserted)


def is_edits(thing):
    """Return whether any object is a tuple of 1 to 4 edits, ascending by document."""
    if not isinstance(thing, tuple) or not 1 <= len(thing) <= MOST_DOCUMENTS:
        return False
    if not all(is_edit(part) for part in thing):
        return False
    return is_ascending([edit[0] for edit in thing])


def is_ascending(names):
    """Return whether names are sorted and all different."""
    return all(names[at] < names[at + 1] for at in range(len(names) - 1))


def fits(content, edit):
    """Return whether the edit's removed piece stands at its position in the content."""
    document, position, removed, inserted = edit
    # Without this test an empty piece would seem to stand beyond the end.
    if position > len(content):
        return False
    return content[position:position + len(removed)] == removed


def apply(content, edit):
    """Return the content after the edit, whatever its length; raise EditMismatch if the edit does not fit."""
    document, position, removed, inserted = edit
    if not fits(content, edit):
        raise EditMismatch(document)
    return content[:position] + inserted + content[position + len(removed):]


def inverse(edit):
    """Return the edit that undoes this one."""
    document, position, removed, inserted = edit
    return (document, position, inserted, removed)
