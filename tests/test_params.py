"""Point 5 and class Param."""

from oncedefaults.errors import BadName, BadParam
from oncedefaults.parts import Kind, Method, Param
from tests.helpers import NAMES, NO_NAMES, OBJECTS, Case, nested

BOX_DEFAULTS = [
    ("once", ()), ("once", ("a",)), ("once", ("a", "b", "c", "d", "e", "f", "g")), ("once", ("ab", "b")),
    ("anew", ()), ("anew", ("a", "z")), ("early", "base", "seen"), ("early", "a", "a"),
    ("late", "base", "seen"), ("late", "cls", "seen"),
]
NO_DEFAULTS = [
    ("once",), ("once", (), ()), ("once", "a"), ("once", ["a"]), ("once", [],), ("once", ("b", "a")), ("once", ("a", "a")),
    ("once", ("",)), ("once", ("A",)), ("once", ("none",)), ("once", (1,)), ("once", (True,)), ("once", (("a",),)),
    ("once", None), ["once", ()], ("anew",), ("anew", ["a"]), ("anew", ("b", "a")), ("anew", "a"), ("anew", (), ()),
    ("early", "base"), ("early", "base", "seen", "x"), ("early", "cls", "seen"), ("early", "base", "value"),
    ("early", "", "seen"), ("early", "base", ""), ("early", ("base",), "seen"), ("early", 1, "seen"), ("early", "base", True),
    ("late", "cls"), ("late", "self", "seen"), ("late", "cls", "cls"), ("late", "cls", ("seen",)), ("late", ["cls"], "seen"),
    ("late", "cls", "seen", "x"), ("copy", ()), ("new", ()), (("once",), ()), (["once"], ()), (True, ()), (1, "a"), "once",
    ("mark", "a"), ("mark", ("a",)),
]
NO_MARK_DEFAULTS = [
    ("mark",), ("mark", ("a",)), ("mark", ["a"]), ("mark", "A"), ("mark", "mark"), ("mark", ""), ("mark", 1), ("mark", True),
    ("mark", None), ("mark", "a", "b"), ["mark", "a"], "a", "mark", ("box", "a"), ("mark", "abcdefghi"),
    ("once", ()), ("once", ("a",)), ("early", "base", "seen"), ("anew", ()), ("late", "cls", "seen"), (["mark"], "a"),
]


class Params(Case):
    def test_attributes(self):
        param = Param("x")
        self.assertEqual(vars(param), {"name": "x", "holds": "box", "default": None, "named": False})
        param = Param(name="m", holds="mark", default=("mark", "a"), named=True)
        self.assertEqual(vars(param), {"name": "m", "holds": "mark", "default": ("mark", "a"), "named": True})
        with self.assertRaises(TypeError):
            Param("x", "box")

    def test_names(self):
        for name in NAMES:
            self.assertEqual(Param(name).name, name)
        for name in NO_NAMES:
            self.raises(BadName(name), Param, name)
        for thing in OBJECTS:
            if thing not in ("a", "b", "m", "base", "call", "a" * 8):
                self.raises(BadName(thing), Param, thing)

    def test_holds(self):
        for holds in ("mark", "box"):
            self.assertEqual(Param("x", holds=holds).holds, holds)
        for thing in OBJECTS:
            if thing not in ("mark", "box"):
                self.raises(BadParam("holds"), Param, "x", holds=thing)

    def test_defaults_of_boxes(self):
        for default in BOX_DEFAULTS:
            self.assertEqual(Param("x", default=default).default, default)
            self.assertEqual(Param("x", holds="box", default=default, named=True).default, default)
            self.raises(BadParam("default"), Param, "x", holds="mark", default=default)
        for default in NO_DEFAULTS:
            self.raises(BadParam("default"), Param, "x", default=default)

    def test_defaults_of_marks(self):
        for name in NAMES:
            self.assertEqual(Param("x", holds="mark", default=("mark", name)).default, ("mark", name))
        for default in NO_MARK_DEFAULTS:
            self.raises(BadParam("default"), Param, "x", holds="mark", default=default)
        for name in NO_NAMES:
            self.raises(BadParam("default"), Param, "x", holds="mark", default=("mark", name))

    def test_any_object_in_each_part_of_a_default(self):
        for thing in OBJECTS + [nested(9, tuple)]:
            if thing is not None:
                for holds in ("mark", "box"):
                    if thing != ("once", ()) or holds == "mark":
                        self.raises(BadParam("default"), Param, "x", holds=holds, default=thing)
            if not isinstance(thing, str):
                self.raises(BadParam("default"), Param, "x", holds="mark", default=("mark", thing))
                self.raises(BadParam("default"), Param, "x", default=("early", thing, "v"))
                self.raises(BadParam("default"), Param, "x", default=("late", thing, "v"))
                self.raises(BadParam("default"), Param, "x", default=("early", "k", thing))
                self.raises(BadParam("default"), Param, "x", default=("late", "cls", thing))
                self.raises(BadParam("default"), Param, "x", default=("once", (thing,)))
                self.raises(BadParam("default"), Param, "x", default=("anew", ("a", thing)))
            if thing not in ((), ("a",), ("a", "b"), ("call",), ("b",)):
                self.raises(BadParam("default"), Param, "x", default=("once", thing))
                self.raises(BadParam("default"), Param, "x", default=("anew", thing))

    def test_named(self):
        for named in (True, False):
            self.assertIs(Param("x", named=named).named, named)
        for thing in OBJECTS:
            if thing is not True and thing is not False:
                self.raises(BadParam("named"), Param, "x", named=thing)

    def test_order_of_errors(self):
        self.raises(BadName("A"), Param, "A", holds=1, default=1, named=1)
        self.raises(BadParam("holds"), Param, "x", holds=1, default=1, named=1)
        self.raises(BadParam("default"), Param, "x", default=1, named=1)
        self.raises(BadParam("named"), Param, "x", named=1)

    def test_equality(self):
        one = Param("x", default=("once", ("a",)), named=True)
        self.assertEqual(one, Param("x", default=("once", ("a",)), named=True))
        others = [
            Param("y", default=("once", ("a",)), named=True), Param("x", default=("anew", ("a",)), named=True),
            Param("x", default=("once", ("a",))), Param("x", named=True), Param("x", holds="mark"),
            Method("x"), Kind("x"), ("x", "box", ("once", ("a",)), True), *OBJECTS,
        ]
        for other in others:
            self.assertFalse(one == other)
            self.assertTrue(one != other)
            self.assertFalse(other == one)
        self.assertNotEqual(Param("x"), Param("x", holds="mark"))
