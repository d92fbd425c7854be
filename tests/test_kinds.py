"""Point 8 of single kinds, and class Kind."""

from oncedefaults.errors import BadName, BadValue, TooMany, Twice
from oncedefaults.parts import Kind, Library, Method, Param
from tests.helpers import NAMES, NO_NAMES, OBJECTS, Case

ONCE = ("once", ())
NO_MAKINGS = [
    ("once",), ("once", (), ()), ("once", ["a"]), ("once", "a"), ("once", ("b", "a")), ("once", ("a", "a")), ("once", (1,)),
    ("once", ("A",)), ["once", ()], ("anew", ()), ("late", "cls", "v"), ("late", "k", "v"), ("mark", "a"), ("early", "k"),
    ("early", "cls", "v"), ("early", "k", "v", "w"), ("early", "k", "is"), ("early", ("k",), "v"), ("early", "k", True), (), "once",
]


class Kinds(Case):
    def test_attributes(self):
        kind = Kind("k")
        self.assertEqual((kind.name, kind.methods, kind.base, kind.own_values), ("k", (), None, ()))
        f, g = Method("f"), Method("g")
        values = (("v", ONCE), ("u", ("early", "k", "v")), ("w", ("once", ("a", "b"))))
        kind = Kind("heir", g, f, base="k", values=values)
        self.assertEqual((kind.name, kind.methods, kind.base, kind.own_values), ("heir", (g, f), "k", values))
        self.assertIs(type(kind.methods), tuple)
        self.assertEqual((Kind.MOST_VALUES, Kind.MOST_METHODS), (3, 4))

    def test_of(self):
        f, g = Method("f"), Method("g")
        wanted = Kind("k", g, f, base="b", values=(("v", ONCE),))
        self.assertEqual(Kind.of("k", [g, f], base="b", values=(("v", ONCE),)), wanted)
        self.assertEqual(Kind.of(name="k", methods=(g, f), base="b", values=(("v", ONCE),)), wanted)
        self.assertIs(type(Kind.of("k", [g, f]).methods), tuple)
        self.assertEqual(Kind.of("k", []), Kind(name="k"))
        self.raises(Twice("f"), Kind.of, "k", [f, g, f])
        self.raises(BadName(1), Kind.of, 1, [])

    def test_names(self):
        for name in NAMES:
            self.assertEqual(Kind(name, base=name).base, name)
        for name in NO_NAMES + [thing for thing in OBJECTS if not isinstance(thing, str)]:
            self.raises(BadName(name), Kind, name)
            if name is not None:
                self.raises(BadName(name), Kind, "k", base=name)

    def test_values(self):
        for making in (ONCE, ("once", ("a", "zz")), ("early", "k", "v"), ("early", "other", "v")):
            self.assertEqual(Kind("k", values=(("v", making),)).own_values, (("v", making),))
        for making in NO_MAKINGS + OBJECTS:
            if making != ONCE:
                self.raises(BadValue(0), Kind, "k", values=(("v", making),))
                self.raises(BadValue(1), Kind, "k", values=(("u", ONCE), ("v", making)))
        for name in NO_NAMES + [thing for thing in OBJECTS if not isinstance(thing, str)]:
            self.raises(BadValue(0), Kind, "k", values=((name, ONCE),))
        for value in [("v",), ("v", ONCE, ONCE), ["v", ONCE], *OBJECTS]:
            self.raises(BadValue(0), Kind, "k", values=(value,))
            self.raises(BadValue(1), Kind, "k", values=(("u", ONCE), value))
        for thing in OBJECTS:
            if thing != () and not isinstance(thing, tuple):
                self.raises(BadValue(-1), Kind, "k", values=thing)
        self.raises(BadValue(-1), Kind, "k", values=[("v", ONCE)])
        self.raises(BadValue(2), Kind, "k", values=(("v", ONCE), ("u", ONCE), ("v", ONCE), 1))
        self.raises(BadValue(1), Kind, "k", values=(("v", ONCE), 1, ("v", ONCE)))

    def test_twice(self):
        f, g = Method("f"), Method("g")
        self.raises(Twice("f"), Kind, "k", f, g, f, g)
        self.raises(Twice("g"), Kind, "k", f, g, f, values=(("g", ONCE),))
        self.raises(Twice("f"), Kind, "k", f, values=(("v", ONCE), ("f", ONCE)))

    def test_bounds(self):
        methods = [Method(name) for name in "abcde"]
        values = tuple((name, ONCE) for name in "wxyz")
        self.assertEqual(len(Kind("k", *methods[:4], values=values[:3]).methods), 4)
        self.raises(TooMany("values"), Kind, "k", values=values)
        self.raises(TooMany("methods"), Kind, "k", *methods)

    def test_order_of_errors(self):
        methods = [Method(name) for name in "abcde"]
        values = tuple((name, ONCE) for name in "wxyz")
        self.raises(BadName("K"), Kind, "K", methods[0], methods[0], base="B", values=1)
        self.raises(BadName("B"), Kind, "k", methods[0], methods[0], base="B", values=1)
        self.raises(BadValue(-1), Kind, "k", methods[0], methods[0], values=1)
        self.raises(BadValue(4), Kind, "k", methods[0], methods[0], values=values + (1,))
        self.raises(Twice("a"), Kind, "k", *methods, methods[0], values=values)
        self.raises(TooMany("values"), Kind, "k", *methods, values=values)

    def test_equality(self):
        f, g = Method("f"), Method("g")
        one = Kind("k", f, g, base="b", values=(("v", ONCE),))
        self.assertEqual(one, Kind("k", Method("f"), Method("g"), base="b", values=(("v", ("once", ())),)))
        for other in (
            Kind("j", f, g, base="b", values=(("v", ONCE),)), Kind("k", g, f, base="b", values=(("v", ONCE),)),
            Kind("k", f, g, values=(("v", ONCE),)), Kind("k", f, g, base="b"), Method("k"), Param("k"), Library(), *OBJECTS,
        ):
            self.assertFalse(one == other)
            self.assertTrue(one != other)
