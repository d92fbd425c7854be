"""What the tests share: any objects, and errors compared with their fields."""

import unittest

from oncedefaults.parts import Kind, Library, Method, Param


def nested(depth, wrap):
    thing = wrap(["a"])
    for _ in range(depth - 1):
        thing = wrap([thing])
    return thing


# Any objects (2), with neighbours of what is right: True beside 1, lists beside tuples, words that are no names.
OBJECTS = [
    0, 1, 2, -1, -2, 10 ** 39, -(10 ** 39), True, False, None,
    "", "a", "b", "m", "base", "mark", "box", "cls", "none", "call", "A", "aB", "a b", "a1", "_", "a" * 8, "a" * 9, "a" * 300,
    (), (0,), (1,), (True,), (False,), (None,), ("",), ("a",), ("b", "a"), ("a", "a"), ("a", "b"), ("a", 1), (("a",),),
    ((), ()), ((0,), (((), "free"),)), ("none",), ("once", ()), ("call", "base", "put", (), ()), ("put", 0, "a"),
    [], ["a"], [1], [True], [[]], [()], ["a", "b"], ["once", ()], ["none"], ["call", "base", "put", (), ()],
    nested(10, tuple), nested(10, list), tuple(range(4000)), ["a"] * 4000,
]

BARRED = ("marks kind value def return none copy if unless in is mark box once anew early late cls self method").split()
NAMES = ["a", "z", "ab", "abcdefgh", "zzzzzzzz", "put", "marked", "i", "item", "new", "lambda", "class", "while"]
NO_NAMES = ["", "abcdefghi", "A", "aB", "Put", "a1", "1", "a_b", "_", "a ", " a", "a b", "a.b", "-", "{", "`", "a\n", *BARRED]


def same(one, other):
    """Whether two objects are alike also in what == does not tell: True and 1, a list and a tuple."""
    return repr(one) == repr(other)


class Case(unittest.TestCase):
    """A test case that compares errors with their class and fields."""

    def raises(self, wanted, ask, *args, **options):
        try:
            given = ask(*args, **options)
        except Exception as error:
            if type(error) is not type(wanted):
                raise
            self.assertEqual(repr(vars(error)), repr(vars(wanted)))
            return
        self.fail(f"{type(wanted).__name__} {vars(wanted)} was not raised, but {given!r} returned")

    def is_same(self, one, other):
        self.assertTrue(same(one, other), f"{one!r} is not {other!r}")


def mark(name, default=None, named=False):
    return Param(name, holds="mark", default=None if default is None else ("mark", default), named=named)


def first_example():
    """The first library of the document."""
    into = Param("into", default=("once", ()))
    put = Method("put", mark("m"), into, rows=(("add", "into", ("m",)),), returns=("box", "into"))
    return Library(Kind("base", put))


def family_example():
    """The library of the document with an heir."""
    rows = (("grow", "cls", "seen", ("m",)), ("get", "x", "cls", "seen"))
    note = Method("note", mark("m"), rows=rows, returns=("copy", "x"))
    return Library(Kind("base", note, values=(("seen", ("once", ())),)), Kind("heir", base="base"))


def emptying_example():
    """The library of the document that no call notices."""
    get = Method("get", Param("x", default=("once", ())), rows=(("drop", "x", ("a", "b")),), returns=("box", "x"))
    return Library(Kind("base", get))
