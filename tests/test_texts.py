"""Points 11 and 12: texts of libraries."""

from oncedefaults.errors import BadText
from oncedefaults.parts import Kind, Library, Method, Param
from oncedefaults.texts import read_library, show_library
from tests import randoms
from tests.helpers import BARRED, NAMES, NO_NAMES, OBJECTS, Case, emptying_example, family_example, first_example, mark

FULL = """marks a b c
kind k
value u = {}
value v = {a b}
value w = k.v
def f(mark m, mark n=a, box x=once {}, *, box y=once {a c})
z = {}
z = {a m}
z = y
z = copy y
z = cls.v
z = k.u
cls.v = z
k.v = y
return none
def g(box x=early k.v, box y=late cls.u)
x |= {a}
x |= {}
x -= {a b c}
cls.v |= {a b}
k.v |= {}
cls.v -= {a}
k.u -= {}
return x
def h(box x, box y=anew {a})
return copy x
def i(*, mark m, box x=anew {}, box y=late k.v)
if a in x: y = {a m}
unless m in x: y = x
if x == y: cls.v = x
if x is y: x |= {m}
unless x == y: cls.v -= {m}
unless x is y: x = copy y
return m in x
kind j(k)
kind h
def e(box x)
return x == x
def d(box x)
return x is x
kind i(j)
value u = i.v"""


def full_library():
    f = Method(
        "f", mark("m"), mark("n", "a"), Param("x", default=("once", ())), Param("y", default=("once", ("a", "c")), named=True),
        rows=(("new", "z", ()), ("new", "z", ("a", "m")), ("name", "z", "y"), ("copy", "z", "y"), ("get", "z", "cls", "v"),
              ("get", "z", "k", "u"), ("set", "cls", "v", "z"), ("set", "k", "v", "y")),
    )
    g = Method(
        "g", Param("x", default=("early", "k", "v")), Param("y", default=("late", "cls", "u")), returns=("box", "x"),
        rows=(("add", "x", ("a",)), ("add", "x", ()), ("drop", "x", ("a", "b", "c")), ("grow", "cls", "v", ("a", "b")),
              ("grow", "k", "v", ()), ("shrink", "cls", "v", ("a",)), ("shrink", "k", "u", ())),
    )
    h = Method("h", Param("x"), Param("y", default=("anew", ("a",))), returns=("copy", "x"))
    i = Method(
        "i", mark("m", named=True), Param("x", default=("anew", ()), named=True), Param("y", default=("late", "k", "v"), named=True),
        rows=(("if", ("in", "a", "x"), ("new", "y", ("a", "m"))), ("unless", ("in", "m", "x"), ("name", "y", "x")),
              ("if", ("equal", "x", "y"), ("set", "cls", "v", "x")), ("if", ("is", "x", "y"), ("add", "x", ("m",))),
              ("unless", ("equal", "x", "y"), ("shrink", "cls", "v", ("m",))), ("unless", ("is", "x", "y"), ("copy", "x", "y"))),
        returns=("test", ("in", "m", "x")),
    )
    e = Method("e", Param("x"), returns=("test", ("equal", "x", "x")))
    d = Method("d", Param("x"), returns=("test", ("is", "x", "x")))
    k = Kind("k", f, g, h, i, values=(("u", ("once", ())), ("v", ("once", ("a", "b"))), ("w", ("early", "k", "v"))))
    last = Kind("i", base="j", values=(("u", ("early", "i", "v")),))
    return Library(k, Kind("j", base="k"), Kind("h", e, d), last, marks=("a", "b", "c"))


# Heads of texts; the line behind each of them is the one that is tried.
HEAD = ["marks a b", "kind k", "value v = {}", "def f(box x, box y, mark m)"]
ROWS = [
    "z = {}", "z = {a}", "z = {a m}", "z = x", "x = y", "z = copy x", "z = cls.v", "z = k.v", "cls.v = x", "k.v = y", "x |= {}",
    "x |= {a b m}", "x -= {}", "x -= {m}", "cls.v |= {}", "k.v |= {a}", "cls.v -= {}", "k.v -= {a m}", "if a in x: x = {}",
    "if m in x: x |= {a}", "if x == y: x -= {a}", "if x is y: x = y", "unless a in x: x = copy y", "unless x == y: cls.v = x",
    "unless x is y: k.v |= {a}", "if x is x: x = cls.v", "unless x == x: k.v -= {}",
]
RETURNS = ["return none", "return x", "return copy x", "return a in x", "return m in y", "return x == y", "return x is y"]
NO_ROWS = [
    "", " ", "x", "x = ", "x =", "= x", "x={}", "x = {", "x = }", "x = { }", "x = {a }", "x = { a}", "x = {b a}", "x = {a a}",
    "x = {a  b}", "x = {a, b}", "x = {A}", "x = (a)", "x = {}}", "x = {{}", "x = {}.v", "x  = y", "x =  y", " x = y", "x = y ",
    "x = y z", "x = copy", "x = copy  y", "x = copy {a}", "x = copy cls.v", "x = copy copy", "copy = x", "x = cls", "x = self.v",
    "x = cls.v.w", "x = cls.", "x = .v", "x = cls .v", "x = cls. v", "x = CLS.v", "x = v.cls", "cls = x", "cls.v = {}", "cls.v = k.u",
    "cls.v = copy x", "cls.v = cls", "self.v = x", "cls.v.w = x", "cls. = x", ".v = x", "x == y", "x is y", "a in x", "x += {a}",
    "x |= a", "x |= y", "x |= {b a}", "x |={a}", "x|= {a}", "x |= {a} ", "x -= k.v", "x &= {a}", "cls.v += {a}", "cls.v |= x",
    "cls |= {a}", "self.v |= {a}", "x = y = z", "x y = z", "if", "if ", "if a in x", "if a in x:", "if a in x: ", "if a in x:x = y",
    "if a in x : x = y", "if  a in x: x = y", "if a in x:  x = y", "if a not in x: x = y", "if x: x = y", "if x = y: x = y",
    "if a in cls.v: x = y", "if {a} == x: x = y", "if a in x: a in x", "if a in x: return x", "if a in x: if a in x: x = y",
    "unless", "unless a in x", "unless a in x:", "unless x != y: x = y", "unless x is y: x == y", "else: x = y", "pass", "return",
    "x = abcdefghi", "abcdefghi = x", "x = {abcdefghi}", "x = a1", "x = {}\t", "x = none", "none = x", "x = if", "#", "x = {} # no",
    "x = (a}", "x = {a)", "x = xa}", "x = {ab", "x |= (a}", "cls.v -= {ax", "if a in x: x = {}: x = {}", "if a IN x: x = y", "IF a in x: x = y", "if a in x; x = y",
]
NO_RETURNS = [
    "return", "return ", "return  x", "return x ", "return x y", "return copy", "return copy ", "return copy none", "return none x",
    "return {}", "return {a}", "return cls.v", "return copy cls.v", "return a in", "return in x", "return x = y", "return x is",
    "return a in x: x", "return not x", "return yes", "return x is not y", "return cls", "return X", "Return x", "returns x",
]
NO_RETURNS.remove("return yes")
PARAMS = [
    "", "mark p", "mark p=a", "mark p=zzz", "box p", "box p=once {}", "box p=once {a b}", "box p=anew {}", "box p=anew {a}",
    "box p=early k.v", "box p=late k.v", "box p=late cls.v", "mark p, box q", "*, box p", "mark p, *, box q, mark r=a",
    "box p, box p", "box p=once {}, box q", "*, box p=once {a b}, mark q", "box p, box q, box r, box s, box t", "mark marked=m",
]
NO_PARAMS = [
    " ", "p", "mark", "box", "mark ", "box ", "mark  p", "mark p ", " mark p", "mark p=", "mark p =a", "mark p= a", "mark p=A",
    "mark p={a}", "mark p=once {}", "mark p=early k.v", "box p=a", "box p={}", "box p=once", "box p=once ", "box p=once{}",
    "box p=once {b a}", "box p=once {a a}", "box p=once {a,b}", "box p=new {}", "box p=copy q", "box p=anew", "box p=anew a",
    "box p=early", "box p=early k", "box p=early cls.v", "box p=early k.v.w", "box p=later k.v", "box p=new k.v", "box p= k.v", "box p=k.v", "box p=once k.v", "box p=early {}", "box p=late {a}", "box p=early self.v", "box p=late", "box p=late self.v",
    "box p=late cls", "box p=late v", "box p=late cls.cls", "box p=once  {}", "box p=once {} ", "box mark", "mark box", "box P",
    "set p", "box cls", "mark p,box q", "mark p , box q", "mark p,  box q", "mark p, ", ", mark p", "mark p,", ",", "*", "*, ",
    "mark p, *", "*, *", "*, *, box p", "*, box p, *", "*, box p, *, box q", "*box p", "* box p", "**, box p", "*p", "(box p)",
    "box p=once {}, *", "mark p=b=c", "box p=once {}=", "box p=none", "mark p=none", "box abcdefghi", "mark p=abcdefghi",
]


class Shown(Case):
    def test_full(self):
        self.assertEqual(show_library(full_library()), FULL)
        self.assertEqual(read_library(FULL), full_library())
        self.assertEqual(read_library(text=show_library(library=full_library())), full_library())

    def test_examples(self):
        text = "marks a b\nkind base\ndef put(mark m, box into=once {})\ninto |= {m}\nreturn into"
        self.assertEqual(show_library(first_example()), text)
        self.assertEqual(read_library(text), first_example())
        text = "marks a b\nkind base\nvalue seen = {}\ndef note(mark m)\ncls.seen |= {m}\nx = cls.seen\nreturn copy x\nkind heir(base)"
        self.assertEqual(show_library(family_example()), text)
        self.assertEqual(read_library(text), family_example())
        text = "marks a b\nkind base\ndef get(box x=once {})\nx -= {a b}\nreturn x"
        self.assertEqual(show_library(emptying_example()), text)
        self.assertEqual(read_library(text), emptying_example())

    def test_small(self):
        for library, text in (
            (Library(), "marks a b"), (Library(marks=("x",)), "marks x"), (Library(Kind("k"), marks=("abcdefgh", "z")), "marks abcdefgh z\nkind k"),
            (Library(Kind("k", Method("f", Param("x", named=True)))), "marks a b\nkind k\ndef f(*, box x)\nreturn none"),
            (Library(Kind("k", Method("f", mark("m"), Param("x", named=True), mark("n", "a", named=True)))),
             "marks a b\nkind k\ndef f(mark m, *, box x, mark n=a)\nreturn none"),
        ):
            self.assertEqual(show_library(library), text)
            self.assertEqual(read_library(text), library)

    def test_random_libraries(self):
        for seed in range(300):
            library = randoms.library(seed, marks=1 + seed % 6, kinds=1 + seed % 4)
            self.assertEqual(read_library(show_library(library)), library)


class Wrong(Case):
    def right(self, lines, wanted=None):
        """All lines are right; they are read, or the number of lines is told if there is no such library."""
        text = "\n".join(lines)
        try:
            self.assertEqual(show_library(read_library(text)), text)
        except BadText as error:
            self.assertEqual(error.at, len(lines), text)

    def wrong(self, lines, at):
        self.raises(BadText(at), read_library, "\n".join(lines))

    def test_no_strings(self):
        for thing in OBJECTS:
            if not isinstance(thing, str):
                self.raises(BadText(-1), read_library, thing)
            else:
                self.raises(BadText(0), read_library, thing)
        self.raises(BadText(-1), read_library, ["marks a"])
        self.raises(BadText(0), read_library, "a" * 25000)
        self.raises(BadText(1), read_library, "marks a\n" + "x = {}\n" * 3000)

    def test_empty_lines(self):
        self.wrong([""], 0)
        self.wrong(["", ""], 0)
        self.wrong(["", "marks a"], 0)
        for lines in (["marks a b"], HEAD[:2], HEAD[:3], [*HEAD, "return none"], FULL.split("\n")):
            self.right(lines)
            self.wrong([*lines, ""], len(lines))
            self.wrong([*lines, "", ""], len(lines))
            for at in range(len(lines)):
                self.wrong([*lines[:at], "", *lines[at:]], at)

    def test_ends_too_early(self):
        self.raises(BadText(4), read_library, "\n".join(HEAD))
        self.raises(BadText(5), read_library, "\n".join([*HEAD, "x = y"]))
        lines = FULL.split("\n")
        for many in range(1, len(lines)):
            word = lines[many - 1].split(" ")[0]
            if word in ("marks", "kind", "value", "return"):
                self.assertEqual(show_library(read_library("\n".join(lines[:many]))), "\n".join(lines[:many]))
            else:
                self.wrong(lines[:many], many)

    def test_rows(self):
        for row in ROWS:
            lines = [*HEAD, row, "return none"]
            self.assertEqual(show_library(read_library("\n".join(lines))), "\n".join(lines))
        for row in NO_ROWS:
            self.wrong([*HEAD, row, "return none"], 4)
            self.wrong([*HEAD, "x = {}", row, "return none", "wrong"], 5)
        for barred in BARRED:
            for row in (f"{barred} = x", f"x = {barred}", f"x = {{{barred}}}", f"{barred} |= {{}}", f"x = k.{barred}", f"k.{barred} = x"):
                self.wrong([*HEAD, row, "return none"], 4)

    def test_returns(self):
        for line in RETURNS:
            lines = [*HEAD, line]
            self.assertEqual(show_library(read_library("\n".join(lines))), "\n".join(lines))
        for line in NO_RETURNS:
            self.wrong([*HEAD, line], 4)
            self.wrong([*HEAD, "x = {}", line, "wrong"], 5)
        self.raises(BadText(5), read_library, "\n".join([*HEAD, "return yes"]))

    def test_parameters(self):
        for params in PARAMS:
            self.right([*HEAD[:3], f"def f({params})", "return none"])
        for params in NO_PARAMS:
            self.wrong([*HEAD[:3], f"def f({params})", "return none"], 3)
        for line in ("def", "def ", "def f", "def f(", "def f)", "def (box x)", "def  f()", "def f ()", "def f() ", "def f():",
                     "def F()", "def f()()", "def def()", "def f(box x", "def f(box xx", "def f(]", "def f box x)", "def abcdefghi()", "def cls()", "Def f()"):
            self.wrong([*HEAD[:3], line, "return none"], 3)

    def test_marks_lines(self):
        for line in ("marks a", "marks a b c d e f", "marks abcdefgh"):
            self.assertEqual(show_library(read_library(line)), line)
        for line in ("marks b a", "marks a a", "marks a b c d e f g"):
            self.raises(BadText(1), read_library, line)
        for line in ("marks", "marks ", "marks  a", "marks a ", "marks a  b", "marks A", "marks a, b", "marks {a}", "marks a1",
                     "marks none", "marks abcdefghi", "mark a", "Marks a", " marks a", "kind k", "return none", "x = {}", "def f()"):
            self.wrong([line], 0)
            self.wrong([line, "kind k"], 0)

    def test_kind_lines(self):
        for name in NAMES:
            self.assertEqual(read_library(f"marks a\nkind {name}")[name], Kind(name))
        for name in NO_NAMES:
            self.wrong(["marks a", *f"kind {name}".split("\n")], 1 if name != "a\n" else 2)
        for line in ("kind", "kind ", "kind  k", "kind k ", "kind k()", "kind k(j", "kind k(jj", "kind k(j]", "kind k j", "kind k(j) ", "kind k (j)", "kind k( j)",
                     "kind (j)", "kind k(cls)", "kind k(J)", "kind k(j)(i)", "kind k(j, i)", "kind k:", "kind k(j):", "kinds k"):
            self.wrong(["marks a", line], 1)

    def test_value_lines(self):
        for making in ("{}", "{a}", "{a b}", "k.u"):
            lines = [*HEAD[:2], "value u = {}", f"value v = {making}"]
            self.assertEqual(show_library(read_library("\n".join(lines))), "\n".join(lines))
        for line in ("value", "value ", "value v", "value v =", "value v = ", "value v={}", "value v = {b a}", "value v = {a a}",
                     "value v = { }", "value v = u", "value v = cls.u", "value v = self.u", "value v = k.u.w", "value v = copy u",
                     "value v = once {}", "value v = early k.u", "value V = {}", "value cls = {}", "value  v = {}", "value v = {} ",
                     "value v  = {}", "value v =  {}", "value k.v = {}", "value v |= {}", "value v = {a,b}", "values v = {}"):
            self.wrong([*HEAD[:2], line], 2)
            self.wrong([*HEAD[:3], line], 3)

    def test_places_of_lines(self):
        line_of = {"marks": "marks a b", "kind": "kind j", "value": "value w = {}", "def": "def g(box x)", "row": "x = {}", "return": "return none"}
        behind = {"marks": [], "kind": ["marks"], "value": ["marks", "kind"], "def": ["marks", "kind"],
                  "row": ["marks", "kind", "def"], "return": ["marks", "kind", "def"]}
        may_follow = {
            "marks": ["kind"], "kind": ["value", "def", "kind"], "value": ["value", "def", "kind"], "def": ["row", "return"],
            "row": ["row", "return"], "return": ["def", "kind"],
        }
        for word, before in behind.items():
            lines = [line_of[other] for other in before] + [line_of[word]]
            for other, line in line_of.items():
                if other in may_follow[word]:
                    self.raises(BadText(len(lines) + 1), read_library, "\n".join([*lines, line, "wrong"]))
                else:
                    self.raises(BadText(len(lines)), read_library, "\n".join([*lines, line, "wrong"]))
        for word, line in line_of.items():
            if word != "marks":
                self.wrong([line], 0)

    def test_right_lines_that_make_no_library(self):
        body = ["x = {a}", "return none"]
        for lines in (
            ["kind k", "kind k"], ["kind k(j)"], ["kind k(k)"], ["kind v", "kind w", "kind x", "kind y", "kind z"],
            ["kind k", "value v = {}", "value v = {}"], ["kind k", "value v = {c}"], ["kind k", "value v = k.u"],
            ["kind k", "value v = j.u"], ["kind k"] + [f"value {v} = {{}}" for v in "wxyz"],
            ["kind k", "def f()", "return none", "def f()", "return none"], ["kind k", "value f = {}", "def f()", "return none"],
            ["kind k", "value v = {}", "kind j(k)", "def v()", "return none"],
            ["kind k"] + [line for name in "vwxyz" for line in (f"def {name}()", "return none")],
            ["kind k", "def f(box x, box x)", *body], ["kind k", "def f(box x=once {}, box y)", *body],
            ["kind k", "def f(mark m, mark n, mark o, mark p, mark q)", "return none"], ["kind k", "def f(box x, box y, box z)", *body],
            ["kind k", "def f(box a)", "return none"], ["kind k", "def f(mark m=c)", "return none"],
            ["kind k", "def f(box x=once {c})", "return none"], ["kind k", "def f(box x=late cls.v)", "return none"],
            ["kind k", "def f(box x=early k.v)", "return none"], ["kind k", "def f()", "return x"], ["kind k", "def f()", "x = y", "return x"],
            ["kind k", "def f()", "x = {c}", "return x"], ["kind k", "def f()", "a = {}", "return none"],
            ["kind k", "def f()", "x = cls.v", "return none"], ["kind k", "def f(mark m)", "m = {}", "return none"],
            ["kind k", "def f()"] + ["x = {}"] * 9 + ["return none"], ["kind k", "def f(box x)", "return c in x"],
            ["kind k", "def f(box x)", "if a in x: y = {}", "return none"], ["kind k", "def f(mark x)", "return x == x"],
        ):
            self.raises(BadText(len(lines) + 1), read_library, "\n".join(["marks a b", *lines]))
            self.raises(BadText(len(lines) + 1), read_library, "\n".join(["marks a b", *lines, "wrong", "kind"]))

    def test_first_wrong_line(self):
        lines = FULL.split("\n")
        for at, line in enumerate(lines):
            self.wrong([*lines[:at], line + " ", *lines[at + 1:]], at)
            self.wrong([*lines[:at], " " + line, *lines[at + 1:]], at)
            self.wrong([*lines[:at], line.upper(), *lines[at + 1:], "wrong"], at)
