"""Points 8 to 10 and 25, and class Library."""

from oncedefaults.errors import (
    BadMarks, Clash, NoBase, NoDefault, NoKind, NoMark, NoMethod, NoValue, TooMany, Twice,
)
from oncedefaults.parts import Kind, Library, Method, Param
from tests.helpers import NO_NAMES, OBJECTS, Case, emptying_example, family_example, first_example, mark

ONCE = ("once", ())


def values(*names):
    return tuple((name, ONCE) for name in names)


def lone(*rows, params=(), returns=("none",), own=("v",), marks=("a", "b")):
    """A library with one method in one kind."""
    return Library(Kind("k", Method("f", *params, rows=rows, returns=returns), values=values(*own)), marks=marks)


class Libraries(Case):
    def test_attributes(self):
        library = Library()
        self.assertEqual((library.kinds, library.marks, len(library)), ((), ("a", "b"), 0))
        kinds = (Kind("k"), Kind("j"), Kind("i", base="k"))
        library = Library(*kinds, marks=("x",))
        self.assertEqual((library.kinds, library.marks, len(library)), (kinds, ("x",), 3))
        self.assertIs(type(library.kinds), tuple)
        self.assertEqual(list(library), list(kinds))
        self.assertEqual([kind for kind in library], list(kinds))
        self.assertEqual((Library.MOST_KINDS, Library.MOST_MARKS), (4, 6))

    def test_of(self):
        kinds = [Kind("k"), Kind("j")]
        self.assertEqual(Library.of(kinds), Library(*kinds))
        self.assertEqual(Library.of(kinds=tuple(kinds), marks=("x",)), Library(*kinds, marks=("x",)))
        self.assertIs(type(Library.of(kinds).kinds), tuple)
        self.assertEqual(Library.of(()), Library())
        self.raises(Twice("k"), Library.of, [kinds[0], kinds[0]])

    def test_kinds_by_name(self):
        library = family_example()
        self.assertEqual(library["heir"], Kind("heir", base="base"))
        self.assertIn("base", library)
        for thing in OBJECTS + ["heirs", ("heir",), ["heir"]]:
            if thing != "base":
                self.assertNotIn(thing, library)
                self.raises(NoKind(thing), lambda key: library[key], thing)
                self.raises(NoKind(thing), library.value_names, thing)
                self.raises(NoKind(thing), library.method_of, thing, "note")
                self.raises(NoKind(thing), library.method_of, kind=thing, name=thing)
            self.raises(NoMethod(thing), library.method_of, "heir", thing)
        self.raises(NoMethod("seen"), library.method_of, "heir", "seen")
        self.assertIs("base" in library, True)
        self.assertIs(1 in library, False)

    def test_equality(self):
        one = family_example()
        self.assertEqual(one, family_example())
        for other in (Library(*one.kinds[:1]), Library(*one.kinds, marks=("a", "b", "c")), first_example(), one.kinds, *OBJECTS):
            self.assertFalse(one == other)
            self.assertTrue(one != other)
        self.assertNotEqual(Library(Kind("k"), Kind("j")), Library(Kind("j"), Kind("k")))

    def test_marks(self):
        for marks in (("a",), ("a", "b", "c", "d", "e", "f"), ("ab", "b"), ("x", "zz")):
            self.assertEqual(Library(marks=marks).marks, marks)
        wrong = [(), ("b", "a"), ("a", "a"), tuple("abcdefg"), ["a"], ("a", 1), ("a", ""), "ab", ("mark",)]
        for thing in wrong + [(name,) for name in NO_NAMES] + OBJECTS:
            if thing not in (("a",), ("a", "b")):
                self.raises(BadMarks(thing), Library, marks=thing)

    def test_bounds(self):
        kinds = [Kind(name) for name in "vwxyz"]
        self.assertEqual(len(Library(*kinds[:4])), 4)
        self.raises(TooMany("kinds"), Library, *kinds)
        self.raises(TooMany("kinds"), Library, *[kinds[0]] * 5)
        self.raises(BadMarks(1), Library, *kinds, marks=1)

    def test_names_and_bases(self):
        self.raises(Twice("k"), Library, Kind("k"), Kind("j"), Kind("k"), Kind("j"))
        self.raises(Twice("k"), Library, Kind("k"), Kind("k", base="x"))
        self.raises(NoBase("x"), Library, Kind("k"), Kind("j", base="x"))
        self.raises(NoBase("j"), Library, Kind("k", base="j"), Kind("j"))
        self.raises(NoBase("k"), Library, Kind("k", base="k"))

    def test_clashes_with_bases(self):
        f, g, v = Method("f"), Method("g"), Method("v")
        base = Kind("k", f, g, values=values("u", "v"))
        middle = Kind("j", base="k")
        for above, kinds in (("k", (base,)), ("j", (base, middle))):
            self.raises(Clash("g"), Library, *kinds, Kind("i", v, base=above, values=values("w", "g", "f")))
            self.raises(Clash("v"), Library, *kinds, Kind("i", Method("h"), v, Method("u"), base=above, values=values("w")))
            self.assertEqual(len(Library(*kinds, Kind("i", f, base=above, values=values("v")))), len(kinds) + 1)
        self.assertEqual(len(Library(base, Kind("i", v, values=values("f")))), 2)
        hiding = Kind("j", base="k", values=values("w"))
        self.raises(Clash("w"), Library, base, hiding, Kind("i", Method("w"), base="j"))

    def test_makings_of_values(self):
        def make(*makings, base=None):
            below = tuple((name, making) for name, making in zip("xyz", makings))
            return Library(Kind("k", values=values("v")), Kind("j", base=base, values=below), Kind("i", values=values("v", "x")))

        for makings in (
            [("once", ("a", "b"))], [("early", "k", "v")], [ONCE, ("early", "j", "x")], [("early", "k", "v"), ("early", "j", "x")],
        ):
            self.assertEqual(len(make(*makings)), 3)
        self.raises(NoMark("c"), make, ("once", ("a", "c", "d")))
        self.raises(NoMark("c"), make, ("once", ("c",)), ("early", "k", "x"))
        self.raises(NoValue("k", "x"), make, ("early", "k", "x"), ("once", ("c",)))
        self.raises(NoValue("j", "x"), make, ("early", "j", "x"))
        self.raises(NoValue("j", "y"), make, ("early", "j", "y"), ONCE)
        self.raises(NoValue("j", "v"), make, ("early", "j", "v"))
        self.raises(NoValue("i", "v"), make, ("early", "i", "v"))
        self.raises(NoValue("h", "v"), make, ("early", "h", "v"))
        self.assertEqual(len(make(("early", "j", "v"), base="k")), 3)
        early = Kind("j", base="k", values=(("v", ("early", "j", "v")),))
        self.assertEqual(len(Library(Kind("k", values=values("v")), early)), 2)
        self.raises(NoValue("j", "w"), Library, Kind("k", values=values("v")),
                    Kind("j", base="k", values=(("v", ("early", "j", "w")), ("w", ONCE))))

    def test_parameters(self):
        for marks in (("a",), ("a", "b"), ("a", "m")):
            for name in marks:
                self.raises(Clash(name), lone, params=(Param("x"), Param(name)), marks=marks)
                self.raises(Clash(name), lone, params=(mark(name, "zz"),), marks=marks)
        self.raises(NoMark("c"), lone, params=(mark("m", "c"),))
        self.raises(NoMark("m"), lone, params=(mark("m"), mark("n", "m")))
        self.raises(NoMark("c"), lone, params=(Param("x", default=("once", ("a", "c", "d"))),))
        self.raises(NoMark("x"), lone, params=(Param("x", default=("anew", ("b", "x"))),))
        self.raises(NoValue("k", "w"), lone, params=(Param("x", default=("early", "k", "w")),))
        self.raises(NoValue("j", "v"), lone, params=(Param("x", default=("early", "j", "v")),))
        self.raises(NoValue("cls", "w"), lone, params=(Param("x", default=("late", "cls", "w")),))
        self.raises(NoValue("j", "v"), lone, params=(Param("x", default=("late", "j", "v")),))
        for default in (("early", "k", "v"), ("late", "k", "v"), ("late", "cls", "v"), ("anew", ("a", "b")), ("once", ("b",))):
            self.assertEqual(len(lone(params=(Param("x", default=default),))), 1)

    def test_rows(self):
        x, m = Param("x"), mark("m")
        self.raises(Clash("a"), lone, ("new", "a", ("c",)))
        self.raises(Clash("a"), lone, ("name", "a", "x"), params=(x,))
        self.raises(Clash("b"), lone, ("copy", "b", "x"), params=(x,))
        self.raises(Clash("a"), lone, ("get", "a", "j", "w"))
        self.raises(NoMark("c"), lone, ("new", "y", ("a", "c", "d")))
        self.raises(NoMark("y"), lone, ("new", "y", ()), ("add", "y", ("a", "y")))
        self.raises(NoMark("x"), lone, ("add", "x", ("m", "x")), params=(m, x))
        self.raises(NoMark("n"), lone, ("drop", "x", ("m", "n")), params=(m, x))
        self.raises(NoMark("n"), lone, ("grow", "cls", "v", ("b", "n")))
        self.raises(NoMark("n"), lone, ("shrink", "k", "v", ("b", "n")))
        self.raises(NoValue("cls", "w"), lone, ("get", "y", "cls", "w"))
        self.raises(NoValue("j", "v"), lone, ("get", "y", "j", "v"))
        self.raises(NoValue("cls", "w"), lone, ("set", "cls", "w", "x"), params=(x,))
        self.raises(NoValue("k", "f"), lone, ("grow", "k", "f", ("n",)))
        self.raises(NoValue("k", "w"), lone, ("shrink", "k", "w", ()))
        for row in (
            ("new", "y", ("a", "b", "m")), ("get", "y", "k", "v"), ("get", "y", "cls", "v"), ("set", "k", "v", "x"),
            ("grow", "cls", "v", ("m",)), ("shrink", "k", "v", ()), ("if", ("in", "m", "x"), ("add", "x", ("a", "m"))),
        ):
            self.assertEqual(len(lone(row, params=(m, x))), 1)

    def test_parts_of_rows_in_order(self):
        x = Param("x")
        for word in ("if", "unless"):
            self.raises(NoMark("c"), lone, (word, ("in", "c", "x"), ("new", "x", ("d",))), params=(x,))
            self.raises(NoMark("x"), lone, (word, ("in", "x", "x"), ("get", "x", "j", "w")), params=(x,))
            self.raises(NoMark("d"), lone, (word, ("in", "a", "x"), ("new", "x", ("d",))), params=(x,))
            self.raises(NoValue("j", "v"), lone, (word, ("is", "x", "x"), ("grow", "j", "v", ("d",))), params=(x,))
            self.raises(NoValue("j", "v"), lone, (word, ("equal", "x", "x"), ("get", "x", "j", "v")), params=(x,))
        self.raises(NoValue("k", "w"), lone, ("grow", "k", "w", ("c",)))
        self.raises(NoMark("c"), lone, ("grow", "k", "v", ("c",)))

    def test_results(self):
        x = Param("x")
        self.raises(NoMark("c"), lone, params=(x,), returns=("test", ("in", "c", "x")))
        self.raises(NoMark("x"), lone, params=(x,), returns=("test", ("in", "x", "x")))
        for returns in (("test", ("in", "m", "x")), ("test", ("in", "b", "x")), ("box", "x"), ("copy", "x"), ("none",)):
            self.assertEqual(len(lone(params=(x, mark("m", "a", named=True)), returns=returns)), 1)

    def test_own_kind_and_earlier_ones(self):
        get = Method("f", rows=(("get", "y", "j", "u"),))
        early = Method("f", Param("x", default=("early", "j", "u")))
        late = Method("f", Param("x", default=("late", "j", "u")))
        for method in (get, early, late):
            earlier = Kind("j", values=values("u"))
            self.assertEqual(len(Library(earlier, Kind("k", method))), 2)
            self.raises(NoValue("j", "u"), Library, Kind("k", method), earlier)
            self.raises(NoValue("j", "u"), Library, Kind("j"), Kind("k", method, base="j", values=values("u")))
            self.assertEqual(len(Library(earlier, Kind("i", base="j"), Kind("k", method, base="i"))), 3)
            self.assertEqual(len(Library(Kind("i", values=values("u")), Kind("j", method, base="i"))), 2)
        for owner in ("cls", "k"):
            method = Method("f", Param("x", default=("late", owner, "u")), rows=(("set", owner, "u", "x"),))
            self.assertEqual(len(Library(Kind("j", values=values("u")), Kind("k", method, base="j"))), 2)
            self.raises(NoValue(owner, "u"), Library, Kind("j", values=values("u")), Kind("k", method))
            self.raises(NoValue(owner, "u"), Library, Kind("k", method), Kind("j", base="k", values=values("u")))

    def test_order_of_errors(self):
        bad_value = (("v", ("once", ("c",))),)
        bad_param = Method("f", Param("a", default=("once", ("d",))))
        bad_row = Method("g", rows=(("new", "y", ("e",)),), returns=("test", ("in", "i", "y")))
        bad_result = Method("h", rows=(("new", "y", ()),), returns=("test", ("in", "j", "y")))
        self.raises(Twice("k"), Library, Kind("k"), Kind("k", bad_param, base="x", values=bad_value))
        self.raises(NoMark("c"), Library, Kind("k", bad_param, values=bad_value), Kind("k"))
        self.raises(NoBase("x"), Library, Kind("k"), Kind("j", bad_param, base="x", values=bad_value))
        clashing = Kind("j", Method("u"), bad_param, base="k", values=bad_value)
        self.raises(Clash("u"), Library, Kind("k", values=values("u")), clashing)
        self.raises(Clash("v"), Library, Kind("k", Method("v"), values=values("u")), clashing)
        self.raises(NoMark("c"), Library, Kind("k", bad_param, bad_row, values=bad_value))
        self.raises(Clash("a"), Library, Kind("k", bad_param, bad_row))
        self.raises(NoMark("d"), Library, Kind("k", bad_param, bad_row), marks=("b",))
        self.raises(NoMark("e"), Library, Kind("k", bad_row, bad_param))
        self.raises(NoMark("i"), Library, Kind("k", bad_row, bad_param), marks=("e",))
        self.raises(NoMark("j"), Library, Kind("k", bad_result, bad_row, bad_param))
        self.raises(NoMark("c"), Library, Kind("k", Method("f", mark("m", "c"), Param("a", named=True))))
        self.raises(Clash("a"), Library, Kind("k", Method("f", mark("m", "b"), Param("a", named=True))))

    def test_values_seen(self):
        library = Library(
            Kind("k", Method("f"), values=values("v", "c")), Kind("j", Method("g"), base="k", values=values("v", "b")),
            Kind("i", Method("f", mark("m")), base="j"), Kind("h", values=values("z")),
        )
        self.assertEqual([library.value_names(kind) for kind in "kjih"], [["c", "v"], ["b", "c", "v"], ["b", "c", "v"], ["z"]])
        self.assertEqual(library.value_names(kind="h"), ["z"])
        self.assertIsNot(library.value_names("h"), library.value_names("h"))
        library.value_names("h").append("y")
        self.assertEqual(library.value_names("h"), ["z"])
        self.assertEqual(library.method_of("j", "f"), Method("f"))
        self.assertEqual(library.method_of("i", "f"), Method("f", mark("m")))
        self.assertEqual(library.method_of(kind="i", name="g"), Method("g"))
        self.raises(NoMethod("g"), library.method_of, "k", "g")
        self.raises(NoMethod("f"), library.method_of, "h", "f")


class Places(Case):
    def library(self):
        d, anew, late = ("once", ("a",)), ("anew", ()), ("late", "cls", "v")
        f = Method("f", Param("y", default=("early", "k", "w")), Param("x", default=d, named=True))
        g = Method("g", mark("m", "a"), Param("x", default=anew), Param("y", default=late))
        e = Method("e", Param("x"), Param("y", default=("early", "j", "v")))
        heir = Kind("j", e, Method("a", Param("x", default=d)), base="k", values=(("v", ("early", "j", "v")), ("z", ("once", ("b",)))))
        return Library(Kind("k", g, f, values=(("w", ("once", ("a", "b"))), ("v", ("early", "k", "w")))), heir)

    def test_places(self):
        library = self.library()
        defaults = [
            ("default", "k", "f", "y"), ("default", "k", "f", "x"), ("default", "j", "e", "y"), ("default", "j", "a", "x"),
        ]
        wanted = [("value", "k", "v"), ("value", "k", "w"), ("value", "j", "v"), ("value", "j", "w"), ("value", "j", "z")]
        self.assertEqual(library.places(), wanted + defaults)
        self.assertEqual(library.defaults(), defaults)
        for ask in (library.places, library.defaults):
            ask().clear()
            self.assertEqual(ask()[-4:], defaults)
        self.assertEqual((Library().places(), Library().defaults()), ([], []))
        self.assertEqual(family_example().places(), [("value", "base", "seen"), ("value", "heir", "seen")])
        self.assertEqual(first_example().places(), [("default", "base", "put", "into")])

    def test_versions(self):
        library = self.library()
        fy, fx, ey, ax = library.defaults()
        version = library.made_anew(ey, fy)
        self.assertEqual(version.defaults(), [fx, ax])
        self.assertEqual(version.method_of("k", "f").param("y"), Param("y", default=("anew", ("a", "b"))))
        self.assertEqual(version.method_of("k", "f").param("x"), Param("x", default=("once", ("a",)), named=True))
        self.assertEqual(version.method_of("j", "e").param("y"), Param("y", default=("anew", ("a", "b"))))
        self.assertEqual(version.method_of("j", "e").param("x"), Param("x"))
        self.assertEqual(version.method_of("k", "g"), library.method_of("k", "g"))
        self.assertEqual([kind.own_values for kind in version], [kind.own_values for kind in library])
        self.assertEqual([kind.base for kind in version], [None, "k"])
        self.assertEqual(library, self.library())
        for chosen in ((fy, ey), [ey, fy, ey], [fy, ey]):
            self.assertEqual(library.version(chosen), version)
        self.assertEqual(library.version(chosen=[ey, fy]), version)
        self.assertEqual(library.made_anew(ey, fy, fy), version)
        self.assertEqual(library.made_anew(ey).made_anew(fy), version)
        self.assertEqual((library.made_anew(), library.version(())), (library, library))
        self.assertEqual(library.made_anew(*library.defaults()).defaults(), [])
        self.assertEqual(library.made_anew(fx).method_of("k", "f").param("x"), Param("x", default=("anew", ("a",)), named=True))
        self.assertEqual(library.made_anew(fx).marks, library.marks)

    def test_versions_keep_rows_and_results(self):
        library = emptying_example()
        version = library.made_anew(("default", "base", "get", "x"))
        wanted = Method("get", Param("x", default=("anew", ())), rows=(("drop", "x", ("a", "b")),), returns=("box", "x"))
        self.assertEqual(version, Library(Kind("base", wanted)))
        wider = Library(*library.kinds, marks=("a", "b", "c"))
        self.assertEqual(wider.made_anew(("default", "base", "get", "x")).marks, ("a", "b", "c"))

    def test_early_defaults_have_the_box_of_their_moment(self):
        k = Kind("k", values=(("v", ("once", ("a",))),))
        f = Method("f", Param("x", default=("early", "j", "v")))
        inherits = Library(k, Kind("j", f, base="k"))
        own = Library(k, Kind("j", f, base="k", values=(("v", ("once", ("b",))),)))
        again = Library(k, Kind("j", f, base="k", values=(("v", ("early", "j", "v")),)))
        for library, items in ((inherits, ("a",)), (own, ("b",)), (again, ("a",))):
            version = library.made_anew(("default", "j", "f", "x"))
            self.assertEqual(version.method_of("j", "f").param("x").default, ("anew", items))

    def test_no_default(self):
        library = self.library()
        right = library.defaults()
        wrong = [
            ("value", "k", "v"), ("default", "k", "g", "x"), ("default", "k", "g", "y"), ("default", "j", "f", "x"),
            ["default", "k", "f", "y"], ("default", "k", "f"), ("default", "k", "f", "z"), ("default", "k", "f", "y", "x"), *OBJECTS,
        ]
        for thing in wrong:
            self.raises(NoDefault(thing), library.made_anew, thing)
            self.raises(NoDefault(thing), library.made_anew, right[0], thing, 7)
            self.raises(NoDefault(thing), library.version, [right[1], thing, right[0], None])
        self.raises(NoDefault(right[0]), library.made_anew(right[0]).made_anew, right[0])


class Faces(Case):
    def test_face(self):
        rows = (("base", "put", (("m", "mark", False, False), ("into", "box", False, True))),)
        self.is_same(first_example().face(), (("a", "b"), rows))
        noted = ("note", (("m", "mark", False, False),))
        self.is_same(family_example().face(), (("a", "b"), (("base", *noted), ("heir", *noted))))
        self.is_same(Library(marks=("x",)).face(), (("x",), ()))

    def test_kinds_and_methods_ascend(self):
        g = Method("g", mark("m", "a", named=True), Param("x", named=True))
        library = Library(Kind("z", g, Method("f")), Kind("c", Method("g"), base="z"), Kind("b", values=values("v")))
        shown = (("m", "mark", True, True), ("x", "box", True, False))
        self.is_same(library.face()[1], (("c", "f", ()), ("c", "g", ()), ("z", "f", ()), ("z", "g", shown)))

    def test_what_does_not_belong_to_the_face(self):
        f = Method("f", Param("x", default=("once", ())))
        same = [
            Library(Kind("k", f), Kind("j", f)), Library(Kind("j", f), Kind("k", f)), Library(Kind("k", f), Kind("j", base="k")),
            Library(Kind("i", values=values("v")), Kind("k", f), Kind("j", f)),
            Library(Kind("k", f), Kind("j", Method("f", Param("x", default=("anew", ("a",))), rows=(("new", "y", ()),), returns=("box", "x")))),
        ]
        for library in same:
            self.is_same(library.face(), same[0].face())
        for other in (
            Library(Kind("k", f)), Library(Kind("k", f), Kind("j", f), marks=("a",)), Library(Kind("k", f), Kind("j", Method("f", Param("x")))),
            Library(Kind("k", f), Kind("j", Method("f", mark("x", "a")))), Library(Kind("k", f), Kind("j", Method("g", *f.params))),
            Library(Kind("k", f), Kind("j", Method("f", Param("y", default=("once", ()))))),
            Library(Kind("k", f), Kind("j", Method("f", Param("x", default=("once", ()), named=True)))),
        ):
            self.assertNotEqual(other.face(), same[0].face())
