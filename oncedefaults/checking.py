"""Whether kinds make a library (8); the errors come in the order of the interface."""

from oncedefaults.errors import Clash, NoBase, NoMark, NoValue, Twice
from oncedefaults.forms import BOX_DEFAULTS, MAKINGS, MARK_DEFAULTS, RESULTS, ROWS, parts_of
from oncedefaults.lookups import kind_named, methods_seen, values_seen


def check_kinds(kinds, marks):
    """Raises the first error of the kinds of a library."""
    for at, kind in enumerate(kinds):
        earlier = kinds[:at]
        if kind_named(earlier, kind.name) is not None:
            raise Twice(kind.name)
        if kind.base is not None and kind_named(earlier, kind.base) is None:
            raise NoBase(kind.base)
        if kind.base is not None:
            check_clashes(earlier, kind)
        check_values(earlier, kind, marks)
        seen = values_seen_from(earlier, kind, kind.own_values)
        seen["cls"] = seen[kind.name]
        for method in kind.methods:
            check_method(method, marks, seen)


def check_clashes(earlier, kind):
    """No value of a kind has the name of a method that its base sees, nor the other way round."""
    base = kind_named(earlier, kind.base)
    methods = methods_seen(earlier, base)
    for name, _ in kind.own_values:
        if name in methods:
            raise Clash(name)
    values = values_seen(earlier, base)
    for method in kind.methods:
        if method.name in values:
            raise Clash(method.name)


def values_seen_from(earlier, kind, own_values):
    """A dict of the names of values that the earlier kinds see, and this kind with only these values of its own."""
    seen = {other.name: values_seen(earlier, other) for other in earlier}
    inherited = [] if kind.base is None else seen[kind.base]
    seen[kind.name] = inherited + [name for name, _ in own_values]
    return seen


def check_values(earlier, kind, marks):
    """The values of a kind have marks of the library, or see what they are made of."""
    for at, (_, making) in enumerate(kind.own_values):
        seen = values_seen_from(earlier, kind, kind.own_values[:at])
        check_parts(parts_of(making, MAKINGS), marks, marks, seen)


def check_method(method, marks, seen):
    """The parameters, the rows and the result of a method fit the library."""
    for param in method.params:
        if param.name in marks:
            raise Clash(param.name)
        if param.default is not None:
            forms = MARK_DEFAULTS if param.holds == "mark" else BOX_DEFAULTS
            check_parts(parts_of(param.default, forms), marks, marks, seen)
    items = [*marks, *[param.name for param in method.params if param.holds == "mark"]]
    for row in method.rows:
        check_parts(parts_of(row, ROWS), marks, items, seen)
    check_parts(parts_of(method.returns, RESULTS), marks, items, seen)


def check_parts(parts, marks, items, seen):
    """Parts assign no marks, contain only these items, and ask kinds only for values that they are seen to have."""
    owner = None
    for sort, part in parts:
        if sort == "assigned" and part in marks:
            raise Clash(part)
        if sort == "item":
            check_items((part,), items)
        if sort == "items":
            check_items(part, items)
        if sort == "kind" or sort == "owner":
            owner = part
        if sort == "value" and part not in seen.get(owner, ()):
            raise NoValue(owner, part)


def check_items(names, items):
    """All names are items."""
    for name in names:
        if name not in items:
            raise NoMark(name)
