"""Small random libraries, with callers and their tables by a slow search."""

import random

from oncedefaults.errors import BadRow
from oncedefaults.parts import Kind, Library, Method
from oncedefaults.worlds import Callers
from tests import oracle, randoms

KEPT = {}


def small_library(seed, most_calls):
    """A random library with some plain calls, None if there are none or too many; in two of three much happens."""
    make = randoms.library if seed % 3 == 0 else randoms.busy_library
    library = make(seed, marks=1, kinds=1 + seed // 3 % 2)
    return library if 0 < len(list(oracle.calls_at(library, 0))) <= most_calls else None


def some_callers(seed, library):
    choose = random.Random(seed)
    pairs = [(kind, method.name) for kind, method in oracle.pairs_of(library)]
    some = tuple(pair for pair in pairs if choose.random() < 0.6)
    return choose.choice([
        None, None, Callers(changes=False), Callers(passes=False), Callers(changes=False, passes=False), Callers(some), Callers(some, changes=False),
    ])


def some_libraries(count, first=0, most_calls=12, most_worlds=10):
    """Yields seeds, libraries, callers and tables (20) by oracle; of the libraries whose tables are trivial only some."""
    found, seed = 0, first
    while found < count:
        key = (seed, most_calls, most_worlds)
        if key not in KEPT:
            KEPT[key] = looked_at(seed, most_calls, most_worlds)
        if KEPT[key] is not None:
            found += 1
            yield (seed, *KEPT[key])
        seed += 1


def looked_at(seed, most_calls, most_worlds):
    library = small_library(seed, most_calls)
    if library is None:
        return None
    callers = some_callers(seed, library)
    options = {} if callers is None else {name: getattr(callers, name) for name in ("methods", "changes", "passes")}
    table = oracle.table(library, most_worlds, **options)
    if table is None or (len(table[0]) == 1 and seed % 5):
        return None
    return library, callers, table


def pairs_of_libraries(count, first=0):
    """Yields seeds, two libraries with equal faces that are like each other, and callers."""
    found, seed = 0, first
    while found < count:
        seed += 1
        library = small_library(seed, 8)
        if library is None or (not library.defaults() and seed % 4):
            continue
        choose = random.Random(seed)
        one, other = library, changed(choose, library)
        if choose.random() < 0.5:
            one, other = other, one
        found += 1
        yield seed, one, other, some_callers(seed, library)


def changed(choose, library):
    """A version of a library, or one in which a row is left out."""
    chosen = [place for place in library.defaults() if choose.random() < 0.6]
    library = library.version(chosen)
    if choose.random() < 0.6:
        return library
    kinds = []
    for kind in library:
        methods = [without_row(choose, method) for method in kind.methods]
        kinds.append(Kind.of(kind.name, methods, base=kind.base, values=kind.own_values))
    return Library.of(kinds, marks=library.marks)


def without_row(choose, method):
    rows = list(method.rows)
    if rows and choose.random() < 0.7:
        del rows[choose.randrange(len(rows))]
    try:
        return Method.of(method.name, method.params, rows=tuple(rows), returns=method.returns)
    except BadRow:
        return method
