"""Random libraries and histories; equal seeds give equal ones."""

import random

from oncedefaults.errors import PartError
from oncedefaults.parts import Kind, Library, Method, Param


class Maker:
    """Makes random parts that are right in form; whether they fit together is left to the classes."""

    def __init__(self, seed, marks=2, kinds=3):
        self.random = random.Random(seed)
        self.marks = tuple("abcdef"[:marks])
        self.kind_names = ["base", "heir", "other", "last"][:kinds]
        self.values = ["u", "v", "w"]

    def items(self, extra=()):
        return tuple(sorted(name for name in (*self.marks, *extra) if self.random.random() < 0.4))

    def owner(self):
        return self.random.choice(["cls", "cls", *self.kind_names])

    def making(self):
        if self.random.random() < 0.6:
            return ("once", self.items())
        return ("early", self.random.choice(self.kind_names), self.random.choice(self.values))

    def param(self, name, named):
        holds = self.random.choice(["mark", "box", "box"])
        if self.random.random() < 0.3:
            return Param(name, holds=holds, named=named)
        if holds == "mark":
            return Param(name, holds=holds, default=("mark", self.random.choice(self.marks)), named=named)
        word = self.random.choice(["once", "once", "early", "anew", "late"])
        if word in ("once", "anew"):
            return Param(name, default=(word, self.items()), named=named)
        owner = self.random.choice(self.kind_names) if word == "early" else self.owner()
        return Param(name, default=(word, owner, self.random.choice(self.values)), named=named)

    def test(self, names, marks):
        word = self.random.choice(["in", "equal", "is"])
        left = self.random.choice((*self.marks, *marks)) if word == "in" else self.random.choice(names)
        return (word, left, self.random.choice(names))

    def plain(self, names, marks):
        one = self.random.choice([*names, "x", "y"])
        other = self.random.choice(names)
        value = self.random.choice(self.values)
        return self.random.choice([
            ("new", one, self.items(marks)), ("name", one, other), ("copy", one, other), ("get", one, self.owner(), value),
            ("set", self.owner(), value, other), ("add", other, self.items(marks)), ("drop", other, self.items(marks)),
            ("grow", self.owner(), value, self.items(marks)), ("shrink", self.owner(), value, self.items(marks)),
        ])

    def row(self, names, marks):
        plain = self.plain(names, marks)
        if self.random.random() < 0.3:
            return (self.random.choice(["if", "unless"]), self.test(names, marks), plain)
        return plain

    def returns(self, names, marks):
        word = self.random.choice(["none", "box", "box", "copy", "test"])
        if word == "none":
            return ("none",)
        if word == "test":
            return ("test", self.test(names, marks))
        return (word, self.random.choice(names))

    def method(self, name):
        many = self.random.choice([0, 1, 1, 2, 2, 3, 4])
        first_named = self.random.randrange(many + 2)
        params = [self.param(one, at >= first_named) for at, one in enumerate("pqrs"[:many])]
        names = [param.name for param in params if param.holds == "box"] + ["x", "y"]
        marks = [param.name for param in params if param.holds == "mark"]
        rows = tuple(self.row(names, marks) for _ in range(self.random.randrange(5)))
        return Method.of(name, params, rows=rows, returns=self.returns(names, marks))

    def kind(self, name, earlier):
        base = self.random.choice([None, *earlier]) if earlier else None
        methods = [self.tried(self.method, one) for one in ("f", "g", "h")[:self.random.randrange(4)]]
        names = self.random.sample(self.values, self.random.randrange(4))
        return Kind.of(name, methods, base=base, values=tuple((one, self.making()) for one in names))

    def tried(self, make, *args):
        while True:
            try:
                return make(*args)
            except PartError:
                continue

    def library(self):
        """Kind by kind, each one again until it fits."""
        kinds = []
        for at, name in enumerate(self.kind_names):
            kinds = self.tried(lambda: list(Library.of(kinds + [self.kind(name, self.kind_names[:at])], marks=self.marks)))
        return Library.of(kinds, marks=self.marks)


def library(seed, **options):
    return Maker(seed, **options).library()


class BusyMaker(Maker):
    """Makes libraries of few parts in which much happens: class values and defaults are changed and returned."""

    def __init__(self, seed, marks=1, kinds=1):
        Maker.__init__(self, seed, marks=marks, kinds=kinds)
        self.values = ["u", "v"]

    def owner(self):
        return self.random.choice(["cls", "cls", "base"])

    def param(self, name, named):
        if self.random.random() < 0.3:
            return Param(name, named=named)
        word = self.random.choice(["once", "once", "early", "late"])
        default = (word, self.items()) if word == "once" else (word, "base", self.random.choice(self.values))
        return Param(name, default=default, named=named)

    def plain(self, names, marks):
        one, other = self.random.choice(names), self.random.choice(names)
        value, items = self.random.choice(self.values), self.random.choice([self.items(), self.marks])
        return self.random.choice([
            ("get", one, self.owner(), value), ("set", self.owner(), value, other), ("add", other, items), ("drop", other, items),
            ("grow", self.owner(), value, items), ("shrink", self.owner(), value, items), ("copy", one, other), ("name", one, other),
        ])

    def method(self, name):
        params = [self.param(one, self.random.random() < 0.3) for one in "pq"[:self.random.choice([0, 0, 1, 1, 1, 2])]]
        names = [param.name for param in params] + ["x"]
        rows = [("get", "x", self.owner(), self.random.choice(self.values))]
        rows += [self.row(names, []) for _ in range(self.random.choice([0, 1, 1, 2, 3]))]
        return Method.of(name, params, rows=tuple(rows), returns=self.returns(names, []))

    def kind(self, name, earlier):
        if earlier:
            return Kind.of(name, [self.tried(self.method, "f")], base=earlier[0])
        methods = [self.tried(self.method, one) for one in ("f", "g", "h")[:self.random.choice([1, 2, 2, 3])]]
        values = (("u", ("once", self.items())), ("v", self.random.choice([("once", self.items()), ("early", "base", "u")])))
        return Kind.of(name, methods, values=values)


def busy_library(seed, **options):
    return BusyMaker(seed, **options).library()
