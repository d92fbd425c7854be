"""Integers, names, items and contents (2, 4), asked of any object."""

BARRED = ("marks", "kind", "value", "def", "return", "none", "copy", "if", "unless", "in", "is", "mark", "box",
          "once", "anew", "early", "late", "cls", "self", "method")
MOST_LETTERS = 8


def is_integer(thing):
    """Whether any object is an integer; True and False are none."""
    return isinstance(thing, int) and not isinstance(thing, bool)


def is_number_below(thing, bound):
    """Whether any object is an integer from 0 to one below the bound."""
    return is_integer(thing) and 0 <= thing < bound


def is_name(thing):
    """Whether any object is a name."""
    if not isinstance(thing, str) or not 1 <= len(thing) <= MOST_LETTERS:
        return False
    return thing not in BARRED and all(["a" <= letter <= "z" for letter in thing])


def is_owner(thing):
    """Whether any object is a name or the word cls."""
    return thing == "cls" or is_name(thing)


def is_ascending(words):
    """Whether each word is less than the next one."""
    return all([low < high for low, high in zip(words, words[1:])])


def is_items(thing):
    """Whether any object is a tuple of names, strictly ascending."""
    return isinstance(thing, tuple) and all([is_name(part) for part in thing]) and is_ascending(thing)


def is_contents(thing, marks):
    """Whether any object is a tuple of these marks, strictly ascending."""
    return isinstance(thing, tuple) and all([part in marks for part in thing]) and is_ascending(thing)


def all_contents(marks):
    """All contents of boxes with these marks, ascending."""
    found = [()]
    for mark in marks:
        found = found + [(*contents, mark) for contents in found]
    return sorted(found)


def first_again(names, taken):
    """The first name that is taken or that an earlier one repeats, None if there is none."""
    for at, name in enumerate(names):
        if name in taken or name in names[:at]:
            return name
    return None
