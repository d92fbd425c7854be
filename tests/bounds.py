"""Libraries at the bounds, and beyond them."""

from oncedefaults.parts import Kind, Library, Method, Param
from oncedefaults.texts import read_library
from tests.helpers import mark


def counting(marks, owner):
    """The lines of methods that count in binary from {} to the class value w: each adds one if its bit is the one to be set."""
    for at, letter in enumerate(marks):
        lower, with_it, higher = (" ".join(some) for some in (marks[:at], marks[:at + 1], marks[at + 1:]))
        yield [
            f"def p{letter}()", f"x = {owner}.v", f"y = {owner}.w", "low = copy x", f"low -= {{{higher}}}", f"full = {{{lower}}}",
            f"if x == y: low = {{{with_it}}}", f"if low == full: {owner}.v |= {{{letter}}}", f"if low == full: {owner}.v -= {{{lower}}}",
            "return none",
        ]


def values(marks, stop):
    """The lines of the class values that count, and where to stop."""
    return ["value v = {}", f"value w = {{{' '.join(letter for at, letter in enumerate(marks) if stop >> at & 1)}}}"]


def counter(stop, *more):
    """A value that counts from 0 to the stop, which is below 64; more lines stand in the last kind."""
    methods = list(counting("abcdef", "k"))
    lines = ["marks a b c d e f", "kind k", *values("abcdef", stop), *sum(methods[:4], []), "kind j", *sum(methods[4:], []), *more]
    return read_library("\n".join(lines))


def counters(stop, other, *more):
    """Two values that count, each of them up to its own stop, which is below 16; more lines stand in the last kind."""
    methods = sum(counting("abcd", "cls"), [])
    lines = ["marks a b c d", "kind k", *values("abcd", stop), *methods, "kind j", *values("abcd", other), *methods, "kind i", *more]
    return read_library("\n".join(lines))


def millions():
    """A library with millions of plain calls."""
    params = [mark("m", "a"), mark("n", "a"), Param("x", default=("once", ())), Param("y", default=("once", ()))]
    kind = Kind.of("k", [Method.of(name, params) for name in "wxyz"])
    return Library.of([kind] + [Kind(name, base="k") for name in "hij"], marks=tuple("abcdef"))


# With 60 plain calls, three defaults that are made once, and 45 worlds.
SIXTY_CALLS = """marks a b
kind k
value v = {}
def f(mark m, mark n, box x=once {})
x |= {m n}
return copy x
def g(mark m, mark n, box x=early k.v)
x |= {n}
return n in x
def h(mark m, mark n, box x=once {a})
unless m in x: k.v |= {n}
return n in x"""
ONE_MORE = "\nkind j\ndef i()\nreturn none"

# With 60 worlds; a newcomer finds out, and 152 joint worlds can be reached.
SIXTY_WORLDS = """marks a
kind base
value u = {a}
value v = {}
value w = {}
def f(box p=early base.u)
cls.w |= {}
base.w -= {a}
cls.v |= {}
base.v = p
return none
def g(box p, box q=once {})
cls.w |= {a}
x = cls.v
x = copy q
cls.v = x
return q
def h(box p=early base.u, box q=once {a})
return q"""

# By the number of joint worlds that can be reached from the later ones, and whether a newcomer finds out.
JOINTS = {
    (120, True): """marks a
kind base
value v = {a}
value u = base.v
value w = {a}
def f(box p=early base.v, box q=anew {})
cls.u = p
cls.v |= {}
return none
def g(mark p=a)
y = base.w
unless a in y: y = {a p}
y |= {}
cls.w |= {a p}
return y
def h(mark p, mark q, box r=once {a})
if r == r: cls.v -= {a}
r |= {p q}
y = {p q}
return none""",
    (120, False): """marks a b c
kind base
value w = {a c}
value u = {c}
value v = {}
kind heir
def f(mark p=a)
return none
kind other(base)
def f(*, box p=once {b}, mark q=a)
unless q in p: cls.w -= {a q}
p |= {a c q}
if p == p: p |= {b c q}
return p""",
    (121, True): """marks a b
kind base
value v = {b}
value w = {a}
value u = {b}
def f(box p)
x = {b}
y = {a b}
if p is x: x = copy y
unless y is p: cls.v |= {}
return copy x
kind heir(base)
value v = base.w
def f()
x = cls.u
x = cls.u
return a in x
def g(*, box p=early base.u, box q)
x = heir.u
base.u = q
if x is x: base.w |= {b}
return x""",
    (121, False): """marks a b
kind base
value v = {b}
value w = {a}
value u = {a}
def f(box p)
cls.u -= {a b}
x = base.u
base.v = x
return p
def g(box p, box q)
return copy p
kind heir(base)
def f(box p=once {b})
heir.w = p
return none
def g(box p=anew {b})
return p
def h(mark p, box q)
cls.u |= {b}
y = copy q
return y is q""",
}
