"""Parameters, methods, kinds and libraries (4 to 10, 25)."""

from oncedefaults.checking import check_kinds
from oncedefaults.errors import (
    BadMarks, BadName, BadOrder, BadParam, BadRow, BadValue, NoDefault, NoKind, NoMethod, TooMany, Twice,
)
from oncedefaults.forms import first_bad_row, first_bad_value, is_default
from oncedefaults.lookups import kind_named, made, method_found, methods_seen, shared_defaults, values_seen
from oncedefaults.words import first_again, is_items, is_name


class Param:
    """A parameter: it holds a mark or a box, may have a default, and may be passed by name only."""

    def __init__(self, name, *, holds="box", default=None, named=False):
        if not is_name(name):
            raise BadName(name)
        if holds != "mark" and holds != "box":
            raise BadParam("holds")
        if default is not None and not is_default(default, holds):
            raise BadParam("default")
        if not isinstance(named, bool):
            raise BadParam("named")
        self.name = name
        self.holds = holds
        self.default = default
        self.named = named

    def __eq__(self, other):
        return (isinstance(other, Param) and self.name == other.name and self.holds == other.holds
                and self.default == other.default and self.named == other.named)


class Method:
    """A class method: its parameters, its rows and its result."""

    MOST_PARAMS = 4
    MOST_BOXES = 2
    MOST_ROWS = 8

    def __init__(self, name, *params, rows=(), returns=("none",)):
        if not is_name(name):
            raise BadName(name)
        again = first_again([param.name for param in params], ())
        if again is not None:
            raise Twice(again)
        check_order(params)
        if len(params) > Method.MOST_PARAMS:
            raise TooMany("params")
        if len([param for param in params if param.holds == "box"]) > Method.MOST_BOXES:
            raise TooMany("boxes")
        if not isinstance(rows, tuple):
            raise BadRow(-1)
        at = first_bad_row(params, rows, returns)
        if at is not None:
            raise BadRow(at)
        if len(rows) > Method.MOST_ROWS:
            raise TooMany("rows")
        self.name = name
        self.params = params
        self.rows = rows
        self.returns = returns

    @classmethod
    def of(cls, name, params, *, rows=(), returns=("none",)):
        """The same with a list or tuple of parameters."""
        return cls(name, *params, rows=rows, returns=returns)

    def param(self, name):
        """The parameter of this name, any object; None if there is none."""
        for param in self.params:
            if param.name == name:
                return param
        return None

    def __eq__(self, other):
        return (isinstance(other, Method) and self.name == other.name and self.params == other.params
                and self.rows == other.rows and self.returns == other.returns)


class Kind:
    """A class of a library: its base, and its own values and methods."""

    MOST_VALUES = 3
    MOST_METHODS = 4

    def __init__(self, name, *methods, base=None, values=()):
        if not is_name(name):
            raise BadName(name)
        if base is not None and not is_name(base):
            raise BadName(base)
        if not isinstance(values, tuple):
            raise BadValue(-1)
        at = first_bad_value(values)
        if at is not None:
            raise BadValue(at)
        again = first_again([method.name for method in methods], [value[0] for value in values])
        if again is not None:
            raise Twice(again)
        if len(values) > Kind.MOST_VALUES:
            raise TooMany("values")
        if len(methods) > Kind.MOST_METHODS:
            raise TooMany("methods")
        self.name = name
        self.methods = methods
        self.base = base
        self.own_values = values

    @classmethod
    def of(cls, name, methods, *, base=None, values=()):
        """The same with a list or tuple of methods."""
        return cls(name, *methods, base=base, values=values)

    def __eq__(self, other):
        return (isinstance(other, Kind) and self.name == other.name and self.methods == other.methods
                and self.base == other.base and self.own_values == other.own_values)


class Library:
    """Kinds with the marks that their boxes may contain."""

    MOST_KINDS = 4
    MOST_MARKS = 6

    def __init__(self, *kinds, marks=("a", "b")):
        if not is_items(marks) or not 1 <= len(marks) <= Library.MOST_MARKS:
            raise BadMarks(marks)
        if len(kinds) > Library.MOST_KINDS:
            raise TooMany("kinds")
        check_kinds(kinds, marks)
        self.kinds = kinds
        self.marks = marks

    @classmethod
    def of(cls, kinds, *, marks=("a", "b")):
        """The same with a list or tuple of kinds."""
        return cls(*kinds, marks=marks)

    def __len__(self):
        return len(self.kinds)

    def __iter__(self):
        return iter(self.kinds)

    def __getitem__(self, at):
        kind = kind_named(self.kinds, at)
        if kind is None:
            raise NoKind(at)
        return kind

    def __contains__(self, x):
        return kind_named(self.kinds, x) is not None

    def __eq__(self, other):
        return isinstance(other, Library) and self.kinds == other.kinds and self.marks == other.marks

    def places(self):
        """A list of the places, in order: the class values that kinds see, then the defaults that are made once."""
        values = [("value", kind.name, name) for kind in self.kinds for name in values_seen(self.kinds, kind)]
        return values + shared_defaults(self.kinds)

    def defaults(self):
        """A list of the places that are defaults, in order."""
        return shared_defaults(self.kinds)

    def value_names(self, kind):
        """A list of the values that a kind sees."""
        return values_seen(self.kinds, self[kind])

    def method_of(self, kind, name):
        """The method that a kind sees under this name."""
        found = method_found(self.kinds, self[kind], name)
        if found is None:
            raise NoMethod(name)
        return found[1]

    def made_anew(self, *chosen):
        """The version in which these defaults are made anew."""
        return self.version(chosen)

    def version(self, chosen):
        """The same with a list or tuple of places."""
        defaults = self.defaults()
        for place in chosen:
            if place not in defaults:
                raise NoDefault(place)
        seats, boxes = made(self.kinds)
        anew = {place: boxes[seats[place]] for place in chosen}
        kinds = [kind_anew(kind, anew) for kind in self.kinds]
        return Library.of(kinds, marks=self.marks)

    def face(self):
        """What callers see: the marks, and the parameters of each method that a kind sees."""
        rows = [
            (kind.name, name, face_of(self.method_of(kind.name, name)))
            for kind in self.kinds for name in methods_seen(self.kinds, kind)
        ]
        return self.marks, tuple(sorted(rows))


def check_order(params):
    """Parameters that are not named come first, and among these the ones without a default."""
    # The first parameter that stands wrong stands right behind one that it must precede.
    for before, param in zip(params, params[1:]):
        if not param.named and (before.named or (before.default is not None and param.default is None)):
            raise BadOrder(param.name)


def face_of(method):
    """What callers see of the parameters of a method."""
    return tuple([(param.name, param.holds, param.named, param.default is not None) for param in method.params])


def kind_anew(kind, anew):
    """A kind with some defaults made anew, each with the marks that the dict has for its place."""
    methods = [
        Method.of(method.name, [param_anew(kind, method, param, anew) for param in method.params],
                  rows=method.rows, returns=method.returns)
        for method in kind.methods
    ]
    return Kind.of(kind.name, methods, base=kind.base, values=kind.own_values)


def param_anew(kind, method, param, anew):
    """A parameter, with its default made anew if the dict has its place."""
    contents = anew.get(("default", kind.name, method.name, param.name))
    if contents is None:
        return param
    return Param(param.name, holds=param.holds, default=("anew", contents), named=param.named)
