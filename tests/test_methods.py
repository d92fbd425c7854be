"""Points 6 and 7, and class Method."""

from oncedefaults.errors import BadName, BadOrder, BadRow, TooMany, Twice
from oncedefaults.parts import Kind, Method, Param
from tests.helpers import NO_NAMES, OBJECTS, Case, mark

PARAMS = (mark("m"), Param("p"), Param("q", default=("once", ())))
PLAIN = [
    ("new", "x", ()), ("new", "x", ("a", "m")), ("new", "p", ("a",)), ("name", "x", "p"), ("name", "p", "q"), ("name", "p", "p"),
    ("copy", "x", "p"), ("copy", "p", "p"), ("get", "x", "cls", "v"), ("get", "x", "base", "v"), ("get", "p", "base", "v"),
    ("set", "cls", "v", "p"), ("set", "base", "v", "q"), ("add", "p", ()), ("add", "p", ("a", "m")), ("drop", "q", ("a",)),
    ("grow", "cls", "v", ("a",)), ("grow", "base", "v", ()), ("shrink", "cls", "v", ("a", "m")), ("shrink", "base", "v", ("p",)),
]
TESTS = [("in", "a", "p"), ("in", "m", "q"), ("in", "p", "p"), ("equal", "p", "q"), ("equal", "p", "p"), ("is", "p", "q")]
NO_TESTS = [
    ("in", "a"), ("in", "a", "p", "q"), ("in", "A", "p"), ("in", ("a",), "p"), ("in", "a", "m"), ("in", "a", "x"), ("in", 1, "p"),
    ("equal", "p", "x"), ("equal", "x", "p"), ("equal", "p", "m"), ("equal", "m", "p"), ("equal", "p"), ("equal", "p", ("q",)),
    ("is", "p", "m"), ("is", "p", "x"), ("is", "x", "p"), ("is", "p"), ("is", "p", True), ("==", "p", "q"), ["in", "a", "p"],
    ("not", "p", "q"), (), "in", None, (("in",), "a", "p"), ("test", ("in", "a", "p")), ("in", "a", "none"), ("in", "cls", "p"),
]
NO_PLAIN = [
    ("new", "x"), ("new", "x", (), ()), ("new", "x", ["a"]), ("new", "x", "a"), ("new", "x", ("m", "a")), ("new", "x", ("a", "a")),
    ("new", "m", ()), ("new", "cls", ()), ("new", "A", ()), ("new", ("x",), ()), ("new", True, ()), ("new", "x", (1,)),
    ("name", "x", "y"), ("name", "x", "x"), ("name", "x", "m"), ("name", "m", "p"), ("name", "x"), ("name", "x", ("p",)),
    ("copy", "x", "y"), ("copy", "x", "m"), ("copy", "m", "p"), ("copy", "x", "x"), ("copy", "x"), ("copy", "x", "p", "p"),
    ("get", "x", "cls"), ("get", "m", "cls", "v"), ("get", "x", "self", "v"), ("get", "x", "cls", "cls"), ("get", "x", "cls", 1),
    ("get", "x", "cls", "v", "w"), ("get", "x", ("cls", "v")), ("get", "x", ["cls"], "v"),
    ("set", "cls", "v", "x"), ("set", "cls", "v", "m"), ("set", "cls", "v"), ("set", "mark", "v", "p"), ("set", "cls", "in", "p"),
    ("add", "x", ()), ("add", "m", ()), ("add", "p"), ("add", "p", "a"), ("add", "p", ("m", "a")), ("add", "p", ["a"]),
    ("drop", "x", ()), ("drop", "m", ("a",)), ("drop", "p", ("a", "a")), ("drop", "p", None), ("drop", "p", (True,)),
    ("grow", "cls", ("a",)), ("grow", "cls", "v", "a"), ("grow", "cls", "v", ("b", "a")), ("grow", 1, "v", ()),
    ("shrink", "cls", "v"), ("shrink", "cls", "v", ["a"]), ("shrink", "cls", "V", ()), ("shrink", "cls", "v", (), ()),
    ["new", "x", ()], ("make", "x", ()), (), "new", None, True, 1, (["new"], "x", ()), ("none",), ("box", "p"), ("in", "a", "p"),
]
RESULTS = [("none",), ("box", "p"), ("box", "q"), ("copy", "p"), *[("test", test) for test in TESTS]]
NO_RESULTS = [
    (), ("none", "p"), ["none"], "none", None, True, ("box",), ("box", "x"), ("box", "m"), ("box", "p", "q"), ("box", ("p",)),
    ("box", 0), ("copy",), ("copy", "x"), ("copy", "m"), ("copy", "p", "q"), ("copy", ["p"]), ("test",), ("test", "p"),
    ("test", ("in", "a", "p"), "p"), ("yes",), ("in", "a", "p"), (("none",),), *[("test", test) for test in NO_TESTS],
]


class Methods(Case):
    def test_attributes(self):
        method = Method("f")
        self.assertEqual((method.name, method.params, method.rows, method.returns), ("f", (), (), ("none",)))
        rows = (("add", "p", ("a",)),)
        method = Method("f", *PARAMS, rows=rows, returns=("box", "p"))
        self.assertEqual((method.name, method.params, method.rows, method.returns), ("f", PARAMS, rows, ("box", "p")))
        self.assertIs(type(method.params), tuple)
        self.assertEqual((Method.MOST_PARAMS, Method.MOST_BOXES, Method.MOST_ROWS), (4, 2, 8))

    def test_of(self):
        rows = (("add", "p", ("a",)),)
        wanted = Method("f", *PARAMS, rows=rows, returns=("box", "p"))
        self.assertEqual(Method.of("f", list(PARAMS), rows=rows, returns=("box", "p")), wanted)
        self.assertEqual(Method.of(name="f", params=PARAMS, rows=rows, returns=("box", "p")), wanted)
        self.assertIs(type(Method.of("f", list(PARAMS)).params), tuple)
        self.assertEqual(Method.of("f", []), Method(name="f"))
        self.raises(BadName("F"), Method.of, "F", [])
        self.raises(BadRow(0), Method.of, "f", [], rows=(1,))
        self.raises(BadRow(0), Method.of, "f", [], returns=1)

    def test_names(self):
        for name in NO_NAMES + [thing for thing in OBJECTS if not isinstance(thing, str)]:
            self.raises(BadName(name), Method, name)

    def test_param(self):
        method = Method("f", *PARAMS)
        for param in PARAMS:
            self.assertEqual(method.param(param.name), param)
        self.assertEqual(method.param(name="m"), PARAMS[0])
        for thing in OBJECTS:
            if thing != "m":
                self.assertIsNone(method.param(thing))

    def test_twice(self):
        a, b = Param("a"), Param("b")
        self.raises(Twice("b"), Method, "f", a, b, mark("b"), mark("a"))
        self.raises(Twice("a"), Method, "f", a, Param("a", named=True))

    def test_order_of_parameters(self):
        d = ("once", ())
        self.raises(BadOrder("b"), Method, "f", Param("a", named=True), Param("b"))
        self.raises(BadOrder("b"), Method, "f", Param("a", named=True), Param("b", default=d))
        self.raises(BadOrder("b"), Method, "f", mark("a", "x"), Param("b"))
        self.raises(BadOrder("b"), Method, "f", mark("a", "x"), Param("b"), Param("c"))
        self.raises(BadOrder("c"), Method, "f", mark("a", "x"), Param("b", named=True), Param("c"))
        self.raises(BadOrder("d"), Method, "f", mark("a"), mark("b", "x"), mark("c", "x"), mark("d"))
        for params in (
            (mark("a", "x"), mark("b", "x", named=True), Param("c", named=True)),
            (mark("a", "x"), Param("c", named=True)),
            (Param("a", default=d, named=True), Param("b", named=True)),
            (mark("a"), mark("b", "x"), Param("c", default=("late", "cls", "v")), mark("d", named=True)),
        ):
            self.assertEqual(Method("f", *params).params, params)

    def test_bounds(self):
        names = "abcde"
        self.assertEqual(len(Method("f", *[mark(name) for name in names[:4]]).params), 4)
        self.raises(TooMany("params"), Method, "f", *[mark(name) for name in names])
        self.raises(TooMany("params"), Method, "f", *[Param(name) for name in names])
        self.assertEqual(len(Method("f", Param("a"), Param("b"), mark("c"), mark("d")).params), 4)
        self.raises(TooMany("boxes"), Method, "f", Param("a"), Param("b"), Param("c", named=True))
        row = ("new", "x", ())
        self.assertEqual(len(Method("f", rows=(row,) * 8).rows), 8)
        self.raises(TooMany("rows"), Method, "f", rows=(row,) * 9)

    def test_order_of_errors(self):
        five = [mark(name) for name in "abcde"]
        self.raises(BadName(0), Method, 0, mark("a"), mark("a"), rows=1)
        self.raises(Twice("a"), Method, "f", mark("b", "x"), mark("c"), mark("a"), mark("a"), mark("d"))
        self.raises(BadOrder("e"), Method, "f", *five[:3], mark("d", "x"), five[4], rows=1)
        self.raises(TooMany("params"), Method, "f", Param("x"), Param("y"), Param("z"), *five, rows=1)
        self.raises(TooMany("boxes"), Method, "f", Param("x"), Param("y"), Param("z"), rows=1, returns=1)
        self.raises(BadRow(-1), Method, "f", rows=[1], returns=1)
        self.raises(BadRow(1), Method, "f", rows=(("new", "x", ()), 1, 1), returns=1)
        self.raises(BadRow(8), Method, "f", rows=(("new", "x", ()),) * 8 + (1,))
        self.raises(BadRow(9), Method, "f", rows=(("new", "x", ()),) * 9, returns=("box", "y"))

    def test_rows_any_object(self):
        for thing in OBJECTS:
            if thing != () and not isinstance(thing, tuple):
                self.raises(BadRow(-1), Method, "f", rows=thing)
            self.raises(BadRow(0), Method, "f", rows=(thing,))
            self.raises(BadRow(1), Method, "f", rows=(("new", "x", ()), thing))
            if thing != ("none",):
                self.raises(BadRow(0), Method, "f", returns=thing)
                self.raises(BadRow(1), Method, "f", rows=(("new", "x", ()),), returns=thing)

    def test_plain_rows(self):
        for row in PLAIN:
            self.assertEqual(Method("f", *PARAMS, rows=(row,)).rows, (row,))
        for row in NO_PLAIN:
            self.raises(BadRow(0), Method, "f", *PARAMS, rows=(row,))
            self.raises(BadRow(1), Method, "f", *PARAMS, rows=(PLAIN[0], row) if "x" not in repr(row) else (PLAIN[-1], row))

    def test_each_part_of_a_row_any_object(self):
        for row in PLAIN + RESULTS + [("if", TESTS[0], PLAIN[2]), ("unless", TESTS[3], PLAIN[13])] + TESTS:
            for at in range(len(row)):
                for thing in OBJECTS:
                    changed = row[:at] + (thing,) + row[at + 1:]
                    if isinstance(thing, str) and at > 0 or thing in ((), ("a",), ("a", "b")) and changed[-1] is thing:
                        continue
                    if changed not in PLAIN:
                        self.raises(BadRow(0), Method, "f", *PARAMS, rows=(changed,))
                    if changed not in RESULTS:
                        self.raises(BadRow(0), Method, "f", *PARAMS, returns=changed)

    def test_branches(self):
        plain = [row for row in PLAIN if row[0] not in ("new", "name", "copy", "get") or row[1] != "x"]
        for word in ("if", "unless"):
            for test in TESTS:
                for row in plain:
                    self.assertEqual(len(Method("f", *PARAMS, rows=((word, test, row),)).rows), 1)
            for test in NO_TESTS:
                self.raises(BadRow(0), Method, "f", *PARAMS, rows=((word, test, plain[0]),))
            for row in NO_PLAIN + [(word, TESTS[0], plain[0])] + [row for row in PLAIN if row not in plain]:
                self.raises(BadRow(0), Method, "f", *PARAMS, rows=((word, TESTS[0], row),))
            self.raises(BadRow(0), Method, "f", *PARAMS, rows=((word, TESTS[0]),))
            self.raises(BadRow(0), Method, "f", *PARAMS, rows=((word, TESTS[0], plain[0], plain[0]),))
            self.raises(BadRow(0), Method, "f", *PARAMS, rows=([word, TESTS[0], plain[0]],))
        self.raises(BadRow(0), Method, "f", *PARAMS, rows=(("else", TESTS[0], plain[0]),))

    def test_results(self):
        for returns in RESULTS:
            self.assertEqual(Method("f", *PARAMS, returns=returns).returns, returns)
            self.raises(BadRow(0), Method, "f", *PARAMS, rows=(returns,))
        for returns in NO_RESULTS:
            self.raises(BadRow(0), Method, "f", *PARAMS, returns=returns)
            self.raises(BadRow(2), Method, "f", *PARAMS, rows=(("add", "p", ()),) * 2, returns=returns)

    def test_local_variables(self):
        new = ("new", "x", ())
        test = ("in", "a", "p")
        for use in (
            ("name", "y", "x"), ("copy", "y", "x"), ("copy", "x", "x"), ("set", "cls", "v", "x"), ("add", "x", ()), ("drop", "x", ()),
            ("if", ("in", "a", "x"), ("add", "p", ())), ("unless", ("equal", "x", "p"), new), ("if", ("is", "p", "x"), new),
            ("if", test, new), ("unless", test, ("name", "x", "p")), ("if", test, ("get", "x", "cls", "v")),
        ):
            for first in (new, ("name", "x", "p"), ("copy", "x", "p"), ("get", "x", "cls", "v")):
                self.assertEqual(Method("f", Param("p"), rows=(first, use)).rows, (first, use))
                self.raises(BadRow(0), Method, "f", Param("p"), rows=(use, first))
                self.raises(BadRow(0), Method, "f", Param("p"), rows=(("if", test, first), use))
        for returns in (("box", "x"), ("copy", "x"), ("test", ("in", "a", "x")), ("test", ("is", "x", "x"))):
            self.assertEqual(Method("f", rows=(new,), returns=returns).returns, returns)
            self.raises(BadRow(0), Method, "f", returns=returns)
        self.raises(BadRow(1), Method, "f", Param("p"), rows=(("add", "p", ()), ("if", test, new), new))
        self.raises(BadRow(0), Method, "f", mark("m"), rows=(("new", "m", ()),))
        self.raises(BadRow(1), Method, "f", mark("m"), Param("p"), rows=(("add", "p", ()), ("if", test, ("new", "m", ()))))

    def test_items_may_be_any_names(self):
        method = Method("f", Param("p"), rows=(("add", "p", ("p", "zzz")), ("grow", "nokind", "novalue", ("x",))))
        self.assertEqual(len(method.rows), 2)

    def test_equality(self):
        rows = (("add", "p", ("a",)),)
        one = Method("f", *PARAMS, rows=rows, returns=("box", "p"))
        self.assertEqual(one, Method("f", *PARAMS, rows=rows, returns=("box", "p")))
        for other in (
            Method("g", *PARAMS, rows=rows, returns=("box", "p")), Method("f", *PARAMS[:2], rows=rows, returns=("box", "p")),
            Method("f", *PARAMS, returns=("box", "p")), Method("f", *PARAMS, rows=rows), Param("f"), Kind("f"),
            ("f", PARAMS, rows, ("box", "p")), *OBJECTS,
        ):
            self.assertFalse(one == other)
            self.assertTrue(one != other)
        self.assertNotEqual(Method("f", PARAMS[0], PARAMS[1]), Method("f", PARAMS[1], PARAMS[0]))
