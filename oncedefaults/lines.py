"""Single lines of texts (11), read from any string.

Each reader gives None if the string does not have its form. A line that has a form is read as a tuple with one of
the words marks, kind, value, def, row and return first.
"""

from oncedefaults.parts import Param
from oncedefaults.words import is_items, is_name, is_owner

TEST_WORDS = {"in": "in", "==": "equal", "is": "is"}


def read_line(text):
    """A line."""
    word, _, rest = text.partition(" ")
    if word == "marks":
        return read_marks(rest)
    if word == "kind":
        return read_kind(rest)
    if word == "value":
        return read_value(rest)
    if word == "def":
        return read_def(rest)
    if word == "return":
        return read_return(rest)
    return read_row(text)


def read_marks(text):
    """Names, at least one."""
    names = tuple(text.split(" "))
    if not all([is_name(name) for name in names]):
        return None
    return "marks", names


def read_kind(text):
    """The name of a kind, perhaps with its base."""
    if is_name(text):
        return "kind", text, None
    name, _, rest = text.partition("(")
    if not is_name(name) or not rest.endswith(")") or not is_name(rest[:-1]):
        return None
    return "kind", name, rest[:-1]


def read_value(text):
    """A value with its making."""
    name, _, rest = text.partition(" = ")
    items = read_items(rest)
    seat = read_seat(rest)
    if not is_name(name):
        return None
    if items is not None:
        return "value", name, ("once", items)
    if seat is not None and is_name(seat[0]):
        return "value", name, ("early", *seat)
    return None


def read_items(text):
    """Items in braces."""
    if text == "{}":
        return ()
    items = tuple(text[1:-1].split(" "))
    if not text.startswith("{") or not text.endswith("}") or not is_items(items):
        return None
    return items


def read_seat(text):
    """A class value with its owner."""
    owner, _, value = text.partition(".")
    if not is_owner(owner) or not is_name(value):
        return None
    return owner, value


def read_def(text):
    """The name and the parameters of a method."""
    name, _, rest = text.partition("(")
    if not is_name(name) or not rest.endswith(")"):
        return None
    params = read_params(rest[:-1])
    if params is None:
        return None
    return "def", name, params


def read_params(text):
    """The parameters of a method, a list."""
    if text == "":
        return []
    parts = text.split(", ")
    if parts.count("*") > 1 or parts[-1] == "*":
        return None
    params = []
    named = False
    for part in parts:
        if part == "*":
            named = True
            continue
        param = read_param(part, named)
        if param is None:
            return None
        params.append(param)
    return params


def read_param(text, named):
    """A parameter."""
    holds, _, rest = text.partition(" ")
    name, sign, written = rest.partition("=")
    if (holds != "mark" and holds != "box") or not is_name(name):
        return None
    if sign == "":
        return Param(name, holds=holds, named=named)
    default = read_default(written, holds)
    if default is None:
        return None
    return Param(name, holds=holds, default=default, named=named)


def read_default(text, holds):
    """The default of a parameter that holds a mark, or a box."""
    if holds == "mark":
        return ("mark", text) if is_name(text) else None
    word, _, rest = text.partition(" ")
    items = read_items(rest)
    seat = read_seat(rest)
    if (word == "once" or word == "anew") and items is not None:
        return word, items
    if word == "late" and seat is not None:
        return ("late", *seat)
    if word == "early" and seat is not None and is_name(seat[0]):
        return ("early", *seat)
    return None


def read_return(text):
    """A result."""
    word, _, rest = text.partition(" ")
    test = read_test(text)
    if text == "none":
        return "return", ("none",)
    if is_name(text):
        return "return", ("box", text)
    if word == "copy" and is_name(rest):
        return "return", ("copy", rest)
    if test is not None:
        return "return", ("test", test)
    return None


def read_test(text):
    """A test."""
    words = text.split(" ")
    if len(words) != 3 or not is_name(words[0]) or words[1] not in TEST_WORDS or not is_name(words[2]):
        return None
    return TEST_WORDS[words[1]], words[0], words[2]


def read_row(text):
    """A row."""
    word, _, rest = text.partition(" ")
    if word != "if" and word != "unless":
        plain = read_plain(text)
        return None if plain is None else ("row", plain)
    before, _, behind = rest.partition(": ")
    test = read_test(before)
    plain = read_plain(behind)
    if test is None or plain is None:
        return None
    return "row", (word, test, plain)


def read_plain(text):
    """A plain row."""
    left, _, rest = text.partition(" ")
    sign, _, right = rest.partition(" ")
    seat = read_seat(left)
    items = read_items(right)
    if sign == "=" and is_name(left):
        return read_assigned(left, right)
    if sign == "=" and seat is not None and is_name(right):
        return ("set", *seat, right)
    if items is None or (sign != "|=" and sign != "-="):
        return None
    if is_name(left):
        return ("add" if sign == "|=" else "drop", left, items)
    if seat is not None:
        return ("grow" if sign == "|=" else "shrink", *seat, items)
    return None


def read_assigned(name, text):
    """A plain row that assigns a box variable."""
    items = read_items(text)
    seat = read_seat(text)
    word, _, rest = text.partition(" ")
    if items is not None:
        return "new", name, items
    if is_name(text):
        return "name", name, text
    if word == "copy" and is_name(rest):
        return "copy", name, rest
    if seat is not None:
        return ("get", name, *seat)
    return None
