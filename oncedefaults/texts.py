"""Libraries as texts (11, 12)."""

from oncedefaults.errors import BadText, PartError
from oncedefaults.lines import read_line
from oncedefaults.parts import Kind, Library, Method
from oncedefaults.showing import shown_kind

# The lines behind which each line may stand; "start" is ahead of the first one.
MAY_FOLLOW = {
    "marks": ("start",),
    "kind": ("marks", "kind", "value", "return"),
    "value": ("kind", "value"),
    "def": ("kind", "value", "return"),
    "row": ("def", "row"),
    "return": ("def", "row"),
}


def show_library(library):
    """The text of a library."""
    lines = ["marks " + " ".join(library.marks)]
    for kind in library.kinds:
        lines.extend(shown_kind(kind))
    return "\n".join(lines)


def read_library(text):
    """The library that a text, any object, shows."""
    if not isinstance(text, str):
        raise BadText(-1)
    lines = right_lines(text.split("\n"))
    if lines[-1][0] == "def" or lines[-1][0] == "row":
        raise BadText(len(lines))
    try:
        return library_of(lines)
    except PartError:
        raise BadText(len(lines)) from None


def right_lines(texts):
    """The lines, read, if all of them are right."""
    found = []
    before = "start"
    for at, text in enumerate(texts):
        line = read_line(text)
        if line is None or before not in MAY_FOLLOW[line[0]]:
            raise BadText(at)
        found.append(line)
        before = line[0]
    return found


def library_of(lines):
    """The library of right lines."""
    kinds = [kind_of(group) for group in groups_from(lines, "kind")]
    return Library.of(kinds, marks=lines[0][1])


def groups_from(lines, word):
    """Lists of lines, each of which begins with a line that has this word."""
    groups = []
    for line in lines:
        if line[0] == word:
            groups.append([line])
        elif len(groups) > 0:
            groups[-1].append(line)
    return groups


def kind_of(group):
    """The kind of its lines."""
    _, name, base = group[0]
    values = tuple([(line[1], line[2]) for line in group if line[0] == "value"])
    methods = [method_of_lines(lines) for lines in groups_from(group, "def")]
    return Kind.of(name, methods, base=base, values=values)


def method_of_lines(lines):
    """The method of its lines, of which the last one is the result."""
    _, name, params = lines[0]
    rows = tuple([line[1] for line in lines[1:-1]])
    return Method.of(name, params, rows=rows, returns=lines[-1][1])
