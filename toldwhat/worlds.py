"""Worlds of edits: what they do to a text, and what a keeper is told of them."""

from itertools import permutations

from toldwhat.checks import MOST_TEXT, are_numbers, check_letters, is_number
from toldwhat.errors import BadEdits, BadWorld

MOST_EDITS = 100

# The words with which the edits of each world begin.
WORDS = {
    "end": ("put",),
    "ends": ("front", "put"),
    "stack": ("chop", "put"),
    "deque": ("behead", "chop", "front", "put"),
    "in": ("put",),
    "inout": ("put", "take"),
    "relabel": ("put", "turn"),
    "reverse": ("put", "turn"),
}

# The worlds whose edits tell a place.
PLACED = ("in", "inout")


def text_after(world, letters, edits):
    """The text behind edits that begin with the void text."""
    check_world(world)
    check_letters(letters)
    return texts_along(world, letters, edits)[-1]


def told(world, letters, edits):
    """The tuple of the messages of edits."""
    # Only to raise the error of edits that are wrong.
    text_after(world, letters, edits)
    return tuple([message_of(edit) for edit in edits])


def messages(world, letters):
    """The ascending tuple of all messages of a world."""
    check_world(world)
    check_letters(letters)
    found = []
    for word in WORDS[world]:
        found.extend(messages_with(world, letters, word))
    return tuple(sorted(found))


def check_world(world):
    """Raise BadWorld for a value that is no world."""
    # A value that is no string may be one that cannot be looked up.
    if not isinstance(world, str) or world not in WORDS:
        raise BadWorld("not a world")


def texts_along(world, letters, edits):
    """The void text, and the text behind each of the edits."""
    return texts_by(edits, lambda text, edit: text_behind(world, letters, text, edit))


def texts_by(edits, behind):
    """The void text, and the text behind each of the edits, where behind tells what one does to a text, or None."""
    if not isinstance(edits, tuple) or len(edits) > MOST_EDITS:
        raise BadEdits(None)
    texts = [()]
    for index, edit in enumerate(edits):
        text = behind(texts[-1], edit)
        if text is None:
            raise BadEdits(index)
        texts.append(text)
    return texts


def message_of(edit):
    """The message of an edit: itself without its place."""
    # A place is always the third part of an edit.
    return edit[:2]


def messages_with(world, letters, word):
    """All messages of a world that begin with a word."""
    if word != "turn":
        return [(word, letter) for letter in range(letters)]
    if world == "reverse":
        return [("turn",)]
    return [("turn", row) for row in permutations(range(letters))]


def is_message(world, letters, value):
    """Whether a value is a message of a world."""
    # Not by looking it up among all messages: there True would pass for 1.
    if not isinstance(value, tuple) or not 1 <= len(value) <= 2 or value[0] not in WORDS[world]:
        return False
    if value[0] == "turn" and world == "reverse":
        return len(value) == 1
    if len(value) == 1:
        return False
    if value[0] == "turn":
        return is_permutation(value[1], letters)
    return is_number(value[1], 0, letters - 1)


def is_permutation(value, letters):
    """Whether a value is a tuple with each letter once."""
    return are_numbers(value, letters, letters - 1) and len(set(value)) == letters


def is_edit(world, letters, value):
    """Whether a value is an edit of a world, were there a text for it."""
    if world not in PLACED:
        return is_message(world, letters, value)
    if not isinstance(value, tuple) or len(value) != 3:
        return False
    return is_message(world, letters, value[:2]) and is_number(value[2], 0, MOST_TEXT)


def text_behind(world, letters, text, edit):
    """The text behind an edit, None for a value that is no edit that can be done there."""
    if not is_edit(world, letters, edit):
        return None
    return text_by(text, edit)


def text_by(text, edit):
    """The text behind an edit of the world, None where it cannot be done."""
    if edit[0] == "turn":
        return turned_text(text, edit)
    place = place_of(text, edit)
    if edit[0] in ("put", "front"):
        return text_with(text, edit[1], place)
    return text_without(text, edit[1], place)


def place_of(text, edit):
    """The place of the letter that is put in or taken out, told or not."""
    if len(edit) == 3:
        return edit[2]
    if edit[0] == "put":
        return len(text)
    if edit[0] == "chop":
        return len(text) - 1
    return 0


def text_with(text, letter, place):
    """The text with a letter put in at a place, None where it cannot be."""
    if place > len(text) or len(text) == MOST_TEXT:
        return None
    return text[:place] + (letter,) + text[place:]


def text_without(text, letter, place):
    """The text with the letter at a place taken out, None where that is not this letter."""
    if not 0 <= place < len(text) or text[place] != letter:
        return None
    return text[:place] + text[place + 1:]


def turned_text(text, edit):
    """The text with its letters relabelled, or turned round."""
    if len(edit) == 1:
        return text[::-1]
    row = edit[1]
    return tuple([row[letter] for letter in text])
