"""Points 25 to 28: joint worlds, compare, is_comparison, alike."""

import itertools
import random

from oncedefaults.errors import (
    BadArgument, BadMark, BadStep, BadWorld, GivenTwice, Missing, NoBox, NoKind, NoMethod, NoOption, TooMany, TooManyArguments, UnlikeFaces,
)
from oncedefaults.joints import MOST_JOINTS, alike, compare, first_joint, is_comparison, is_joint, joint_after, sides
from oncedefaults.parts import Kind, Library, Method, Param
from oncedefaults.runs import Run, calls_of
from oncedefaults.texts import read_library
from oncedefaults.worlds import Callers
from tests import bounds, oracle, slow
from tests.bending import bent, some_bent, stretched
from tests.helpers import OBJECTS, Case, emptying_example, family_example, first_example, mark
from tests.libraries import pairs_of_libraries
from tests.test_noticing import NOBODY, put
from tests.test_steps import NO_STEPS, call

EMPTY, A, B, AB = (), ("a",), ("b",), ("a", "b")
GET = ("call", "base", "get", (), ())


def version(library):
    return library.version(library.defaults())


EMPTYING = (emptying_example(), version(emptying_example()))
# A value in the one is a default in the other; the second one has a kind that sees no method.
MOVED = (
    read_library("marks a b\nkind k\nvalue v = {}\ndef f(box x=late k.v)\nx |= {a}\nreturn x"),
    read_library("marks a b\nkind i\nvalue w = {}\nkind j\nkind k(i)\ndef f(box x=once {})\nx |= {a}\nreturn x"),
)


class Faces(Case):
    def questions(self):
        return [
            first_joint, lambda one, other: is_joint(one, other, None), lambda one, other: sides(one, other, None),
            lambda one, other: joint_after(one, other, None, None), compare, lambda one, other: is_comparison(one, other, None), alike,
        ]

    def test_unlike_faces_come_first(self):
        f = Method("f", mark("m"), Param("x"))
        one = Library(Kind("k", f))
        others = [
            Library(Kind("k", f), marks=("a",)), Library(Kind("j", f)), Library(Kind("k", Method("g", mark("m"), Param("x")))), Library(),
            Library(Kind("k", Method("f", mark("n"), Param("x")))), Library(Kind("k", Method("f", Param("x"), mark("m")))),
            Library(Kind("k", Method("f", mark("m"), Param("x", named=True)))), Library(Kind("k", Method("f", mark("m"), Param("x", default=("anew", ()))))),
            Library(Kind("k", Method("f", mark("m"), mark("x")))), Library(Kind("k", f), Kind("j", base="k")), bounds.millions(),
            Library(Kind("k", Method("f", mark("m")))),
        ]
        for ask in self.questions():
            for other in others:
                self.raises(UnlikeFaces(), ask, one, other)
                self.raises(UnlikeFaces(), ask, other, one)
        many = bounds.millions()
        more = Library(*many.kinds[:3], marks=many.marks)
        self.raises(UnlikeFaces(), compare, many, more)
        self.raises(UnlikeFaces(), alike, more, many, callers=NOBODY)

    def test_like_faces(self):
        """Kinds that see no method, bases, rows, the order of kinds, and how a default is made do not belong to the face."""
        f, g = Method("f", Param("x", default=("once", ()))), Method("g", mark("m", "a"))
        other_f, other_g = Method("f", Param("x", default=("anew", ("a",))), rows=(("add", "x", ("a",)),)), Method("g", mark("m", "b"))
        one = Library(Kind("k", f), Kind("j", g))
        other = Library(Kind("i"), Kind("j", other_g, base="i"), Kind("k", other_f), Kind("h", base="i", values=(("v", ("once", ())),)))
        self.assertEqual((compare(one, other)[0], alike(one, other), alike(other, one)), ("apart", False, False))
        self.assertEqual(alike(one, other, callers=Callers((("j", "g"),))), True)
        self.assertEqual(first_joint(one, other), ((0, 1), ((EMPTY, "free"), (EMPTY, "free"))))
        self.assertEqual(first_joint(other, one), ((0, 1), ((EMPTY, "free"), (EMPTY, "free"))))


class Joints(Case):
    def test_first(self):
        one, other = EMPTYING
        self.is_same(first_joint(one, other), ((0,), ((EMPTY, "free"),)))
        self.is_same(first_joint(one, one), ((0, 1), ((EMPTY, "free"), (EMPTY, "free"))))
        self.is_same(first_joint(other, other), ((), ()))
        self.is_same(first_joint(one=family_example(), other=family_example()), ((0, -1, 1, -1), ((EMPTY, "free"), (EMPTY, "free"))))

    def test_joint_worlds(self):
        one = first_example()
        family = family_example()
        for library, thing, right in (
            (one, ((0, 1), ((EMPTY, "free"), (EMPTY, "free"))), True),
            (one, ((0, 1), ((AB, "free"), (EMPTY, "held"))), True),
            (one, ((0, 1), ((AB, "held"), (EMPTY, "held"))), True),
            (one, ((0, 0), ((A, "held"),)), True),
            (one, ((0, 0), ((A, "free"),)), False),
            (one, ((0, -1), ((A, "held"),)), False),
            (one, ((1, 0), ((A, "held"), (A, "held"))), False),
            (one, ((0, 1), ((A, "held"),)), False),
            (one, ((0,), ((A, "held"),)), False),
            (one, ((0, 0, 0), ((A, "held"),)), False),
            (one, ((0, True), ((A, "held"), (A, "held"))), False),
            (one, ((False, 1), ((A, "held"), (A, "held"))), False),
            (one, [(0, 0), ((A, "held"),)], False),
            (one, ([0, 0], ((A, "held"),)), False),
            (one, ((0, 0), [(A, "held")]), False),
            (one, ((0, 0), ([A, "held"],)), False),
            (one, ((0, 0), ((["a"], "held"),)), False),
            (one, ((0, 0), ((("c",), "held"),)), False),
            (one, ((0, 0), ((("b", "a"), "held"),)), False),
            (one, ((0, 0), ((A, "taken"),)), False),
            (one, ((0, 0), ((A, "held", "held"),)), False),
            (family, ((0, -1, 1, -1), ((A, "free"), (A, "free"))), True),
            (family, ((0, 0, 1, -1), ((A, "free"), (A, "free"))), True),
            (family, ((0, 0, 0, -1), ((A, "held"),)), True),
            (family, ((0, 1, 2, 1), ((A, "free"), (A, "held"), (A, "free"))), True),
            (family, ((0, 1, 2, 1), ((A, "free"), (A, "free"), (A, "free"))), False),
            (family, ((0, 1, 0, 2), ((A, "free"), (A, "held"), (A, "held"))), False),
            (family, ((-1, -1, 0, -1), ((A, "free"),)), False),
            (family, ((0, -1, -1, -1), ((A, "free"),)), False),
            (family, ((0, -2, 1, -1), ((A, "free"), (A, "free"))), False),
        ):
            self.assertIs(is_joint(library, library, thing), right, thing)
            self.assertEqual(slow.is_joint(library, library, thing), right, thing)
            if not right:
                self.raises(BadWorld(thing), sides, library, library, thing)
                self.raises(BadWorld(thing), joint_after, library, library, thing, None)
        self.assertIs(is_joint(one=one, other=one, thing=((0, 0), ((A, "held"),))), True)

    def test_any_object(self):
        for one, other in ((first_example(), first_example()), EMPTYING, EMPTYING[::-1], (version(first_example()),) * 2, MOVED):
            for thing in OBJECTS:
                right = slow.is_joint(one, other, thing)
                self.assertIs(is_joint(one, other, thing), right)
                if not right:
                    self.raises(BadWorld(thing), sides, one, other, thing)
                    self.raises(BadWorld(thing), joint_after, one, other, thing, thing)

    def test_all_joint_worlds(self):
        """All that is built of seats and boxes for three places, and the runs that are put into it."""
        one, other = MOVED
        found = 0
        words = [(EMPTY, "free"), (EMPTY, "held"), (A, "free"), (AB, "held")]
        for seats in itertools.product((-1, 0, 1, 2, 3), repeat=4):
            for boxes in itertools.product(words, repeat=len(set(seats) - {-1})):
                thing = (seats, boxes)
                right = slow.is_joint(one, other, thing)
                self.assertIs(is_joint(one, other, thing), right, thing)
                found += right
                if right:
                    left, right = sides(one, other, thing)
                    self.assertEqual((left.view, right.view), (tuple(marks for marks, word in boxes if word == "held"),) * 2)
                    self.assertEqual((left.library, right.library), (one, other))
                    real = slow.put_into_joint(one, other, thing)
                    self.assertEqual((left.world, right.world), tuple(run.world() for run in real))
        self.assertGreater(found, 100)

    def test_sides(self):
        one, other = EMPTYING
        joint = ((0,), ((A, "held"),))
        left, right = sides(one=one, other=other, joint=joint)
        self.assertEqual((type(left), type(right), type(sides(one, other, joint))), (Run, Run, tuple))
        self.is_same((left.world, left.view, len(left)), (joint, (A,), 0))
        self.is_same((right.world, right.view, len(right)), (((), ()), (A,), 0))
        self.assertEqual((left.library, right.library), EMPTYING)
        left.put(0, "b")
        self.assertEqual((left.view, right.view), ((AB,), (A,)))
        self.assertEqual(right.step(GET), ("box", 1))
        self.assertEqual(left.step(GET), ("box", 0))
        family = family_example()
        joint = ((0, 1, 2, 1), ((A, "free"), (B, "held"), (AB, "held")))
        left, right = sides(family, family, joint)
        self.is_same((left.world, left.view), (((0, 1), ((A, "free"), (B, "held"))), (B, AB)))
        self.is_same((right.world, right.view), (((0, 1), ((AB, "held"), (B, "held"))), (B, AB)))
        self.assertEqual(left.put(1, "a"), ("none",))
        self.assertEqual((left.view, right.view), ((B, AB), (B, AB)))

    def test_after(self):
        one, other = EMPTYING
        first = first_joint(one, other)
        joint = joint_after(one, other, first, GET)
        self.is_same(joint, ((0,), ((EMPTY, "held"),)))
        self.assertIsNone(joint_after(one, other, joint, GET))
        self.is_same(joint_after(one=one, other=other, joint=joint, step=("put", 0, "b")), ((0,), ((B, "held"),)))
        self.is_same(joint_after(one, other, joint, ("take", 0, "b")), joint)
        self.is_same(joint_after(one, other, joint, call("base", "get", 0)), joint)
        self.is_same(joint_after(one, one, ((0, 1), ((A, "free"), (B, "free"))), GET), ((0, 0), ((EMPTY, "held"),)))
        self.assertIsNone(joint_after(first_example(), first_example(), ((0, 1), ((A, "free"), (B, "free"))), put("a")))
        self.is_same(joint_after(first_example(), first_example(), ((0, 1), ((A, "free"), (B, "free"))), put("a", ())),
                     ((0, 1), ((A, "free"), (B, "free"))))

    def test_a_step_parts_by_the_view_alone(self):
        one = read_library("marks a\nkind k\nvalue v = {}\ndef f(box x)\nreturn none")
        other = read_library("marks a\nkind k\nvalue v = {}\ndef f(box x)\nx |= {a}\nreturn none")
        first = first_joint(one, other)
        self.assertIsNone(joint_after(one, other, first, call("k", "f", ())))
        self.is_same(joint_after(one, other, first, call("k", "f", A)), first)
        self.is_same(compare(one, other), ("apart", (call("k", "f", ()),)))
        keep = (Callers(passes=False), Callers((), changes=True))
        self.assertEqual([compare(one, other, callers=callers)[0] for callers in keep], ["apart", "alike"])

    def test_errors_of_steps(self):
        """Those of a run of the first library, which holds one box here."""
        library = first_example()
        joint = ((0, 0), ((A, "held"),))
        for wanted, step in (
            (NoKind("k"), call("k", "put")), (NoMethod("get"), call("base", "get", 1)), (TooManyArguments(3), put("a", (), ())),
            (NoOption("x"), put(x=1)), (GivenTwice("m"), put("a", m="a")), (Missing("m"), put()), (BadArgument("m"), put("c", 1)),
            (BadArgument("into"), put("a", 1)), (BadArgument("into"), put("a", False)), (NoBox(1), ("put", 1, "c")), (NoBox(False), ("take", False, "a")),
            (BadMark("c"), ("put", 0, "c")), (BadMark(A), ("take", 0, A)),
        ):
            self.raises(wanted, joint_after, library, library, joint, step)
        for thing in [*NO_STEPS, *OBJECTS]:
            if thing == ("put", 0, "a"):
                self.is_same(joint_after(library, library, joint, thing), joint)
            elif thing != ("call", "base", "put", (), ()):
                self.raises(BadStep(thing), joint_after, library, library, joint, thing)
        self.raises(BadWorld([0]), joint_after, library, library, [0], ["no step"])
        one, other = MOVED
        self.raises(NoKind("j"), joint_after, one, other, first_joint(one, other), call("j", "f"))
        self.raises(NoMethod("f"), joint_after, other, one, first_joint(other, one), call("j", "f"))


class Comparing(Case):
    def test_numbers(self):
        self.assertEqual(MOST_JOINTS, 120)

    def test_emptying_example(self):
        one, other = EMPTYING
        self.is_same(compare(one, other), ("apart", (GET, GET)))
        self.is_same(compare(other, one), ("apart", (GET, GET)))
        self.assertIs(alike(one, other), False)
        self.assertIs(alike(one, other, callers=NOBODY), True)
        self.is_same(compare(one, other, callers=NOBODY), ("alike", (((0,), ((EMPTY, "free"),)),)))
        joints = compare(one, one)
        self.is_same(joints, ("alike", tuple([((0, 0), ((contents, "held"),)) for contents in (EMPTY, A, AB, B)] + [first_joint(one, one)])))
        self.is_same(compare(one=one, other=one, callers=None, most=120), joints)

    def test_first_example(self):
        one, other = first_example(), version(first_example())
        word, history = compare(one, other)
        self.assertEqual((word, len(history)), ("apart", 2))
        self.assertIs(is_comparison(one, other, (word, history)), True)
        self.assertIs(is_comparison(one=other, other=one, thing=(word, history), callers=None), True)

    def test_what_is_moved_is_alike(self):
        word, joints = compare(*MOVED)
        self.assertEqual(word, "alike")
        self.assertEqual(len(joints), 5)
        self.assertIs(is_comparison(*MOVED, (word, joints)), True)
        self.assertIs(alike(*MOVED[::-1]), True)
        self.is_same(compare(Library(), Library()), ("alike", (((), ()),)))

    def test_right_papers_of_others(self):
        one, other = EMPTYING
        get0 = call("base", "get", 0)
        for history in ((GET, GET), (GET, ("put", 0, "a"), GET), (GET, get0, GET), (GET,) + (("put", 0, "a"),) * 398 + (GET,), (call("base", "get", ()), GET, GET)):
            self.assertIs(is_comparison(one, other, ("apart", history)), True)
        for history in ((), (GET,), (GET, get0), (GET, GET, GET), (GET,) + (("put", 0, "a"),) * 399 + (GET,), (GET, ("put", 1, "a"), GET), [GET, GET]):
            self.assertIs(is_comparison(one, other, ("apart", history)), False)
        self.assertIs(is_comparison(one, other, ("apart", (GET, ("put", 0, "a"), GET)), callers=Callers(changes=False)), False)
        self.assertIs(is_comparison(one, other, ("apart", (GET, get0, GET)), callers=Callers(passes=False)), False)
        self.assertIs(is_comparison(one, other, ("apart", (GET, GET)), callers=Callers((("base", "get"),), changes=False, passes=False)), True)
        self.assertIs(is_comparison(one, other, ("apart", (GET, GET)), callers=NOBODY), False)
        joints = compare(one, one)[1]
        more = joints + (((0, 1), ((EMPTY, "free"), (A, "free"))),)
        for right in (joints, joints[::-1], joints * 2, more, more[::-1] + joints):
            self.assertIs(is_comparison(one, one, ("alike", right)), True)
        for at in range(len(joints)):
            self.assertIs(is_comparison(one, one, ("alike", joints[:at] + joints[at + 1:])), False)
        self.assertIs(is_comparison(one, one, ("alike", joints + (((0, 1), ((EMPTY, "held"), (EMPTY, "free"))),))), False)
        self.assertIs(is_comparison(one, one, ("alike", joints + (((0, 0), ((EMPTY, "free"),)),))), False)

    def test_any_object(self):
        for one, other in (EMPTYING, (emptying_example(),) * 2, (Library(), Library())):
            for thing in OBJECTS:
                self.assertIs(is_comparison(one, other, thing), False)
                for word in ("apart", "alike"):
                    self.assertIs(is_comparison(one, other, (word, thing)), False)
                    self.assertIs(is_comparison(one, other, (word, (thing,))), slow.is_comparison(one, other, (word, (thing,))))

    def test_all_bent_papers(self):
        callers = Callers(changes=False)
        one, other = EMPTYING
        for left, right in ((one, one), (one, other)):
            paper = compare(left, right, callers=callers)
            told = 0
            for thing in bent(paper):
                wanted = slow.is_comparison(left, right, thing, callers)
                told += wanted
                self.assertIs(is_comparison(left, right, thing, callers=callers), wanted, thing)
            self.assertGreater(told, 0)

    def test_new_runs_differ_by_what_was_lost(self):
        """A box that the library lost counts as well as one that it has, whatever its number."""
        one = read_library(
            "marks a\nkind k\nvalue v = {}\ndef get()\nx = k.v\ny = {}\nk.v = y\nreturn x\ndef ask(box x)\ny = k.v\nif a in x: y |= {a}\nreturn y == x"
        )
        other = read_library(
            "marks a\nkind k\nvalue v = {}\ndef get()\nx = {}\nreturn x\ndef ask(box x)\ny = k.v\nif a in x: y |= {a}\nreturn y == x"
        )
        word, history = compare(one, other)
        self.assertEqual(word, "apart")
        self.assertIs(slow.is_comparison(one, other, (word, history)), True)
        self.assertEqual(len(history), slow.fewest_parting_steps(lambda: (oracle.PythonRun(one), oracle.PythonRun(other)), one, None, 4))


class Bounds(Case):
    def test_calls(self):
        library, more = read_library(bounds.SIXTY_CALLS), read_library(bounds.SIXTY_CALLS + bounds.ONE_MORE)
        self.assertEqual((len(list(calls_of(library))), len(list(calls_of(more)))), (60, 61))
        self.assertEqual((compare(library, library)[0], alike(library, library)), ("alike", True))
        self.assertIs(alike(library, version(library)), False)
        for ask in (compare, alike, lambda one, other, **options: is_comparison(one, other, None, **options)):
            self.raises(TooMany("calls"), ask, more, more)
            self.raises(TooMany("calls"), ask, more, version(more), callers=NOBODY)
            self.raises(TooMany("calls"), ask, bounds.millions(), bounds.millions())
        self.assertEqual(first_joint(more, more)[0][:4], (0, 1, 0, 2))

    def test_joints(self):
        for stop, other, many in ((0, 0, 1), (11, 9, 120), (2, 3, 12), (14, 7, 120)):
            library = bounds.counters(stop, other)
            word, joints = compare(library, library)
            self.assertEqual((word, len(joints)), ("alike", many))
            self.assertIs(is_comparison(library, library, (word, joints)), True)
            self.assertEqual(joints, tuple(sorted(joints)))
            self.assertEqual(compare(library, library, most=many), (word, joints))
            self.assertIs(alike(library, library, most=many), True)
            if many > 1:
                self.raises(TooMany("joints"), compare, library, library, most=many - 1)
                self.raises(TooMany("joints"), alike, library, library, most=many - 1)
        for stop, other in ((10, 10), (15, 15), (7, 15)):
            library = bounds.counters(stop, other)
            self.raises(TooMany("joints"), compare, library, library)
            self.raises(TooMany("joints"), alike, library, library)
            self.assertIs(alike(library, library, callers=NOBODY), True)

    def test_a_step_that_parts_does_not_lift_the_bound(self):
        for stop, other, right in ((11, 9, True), (10, 10, False)):
            one, two = (bounds.counters(stop, other, "def ask(box x)", f"return {result}") for result in ("none", "x"))
            step = ("call", "i", "ask", ((),), ())
            self.assertIs(is_comparison(one, two, ("apart", (step,))), True)
            if right:
                word, history = compare(one, two)
                self.assertEqual((word, len(history)), ("apart", 1))
                self.assertIs(alike(one, two), False)
                self.raises(TooMany("joints"), compare, one, two, most=119)
                self.raises(TooMany("joints"), compare, one, two, most=1)
            else:
                self.raises(TooMany("joints"), compare, one, two)
                self.raises(TooMany("joints"), alike, one, two)

    def test_long_ways(self):
        """Only the last of 120 joint worlds is told apart, behind as many steps as two counters need."""
        lines = ["def ask()", "x = k.v", "y = k.w", "n = {}", "if x == y: n |= {a}", "x = j.v", "y = j.w", "unless x == y: n -= {a}"]
        one, other = (bounds.counters(11, 9, *lines, f"return {mark} in n") for mark in "ab")
        word, history = compare(one, other)
        self.assertEqual((word, len(history)), ("apart", 21))
        self.assertIs(is_comparison(one, other, (word, history)), True)
        self.assertIs(is_comparison(one, other, (word, history[1:])), False)
        self.raises(TooMany("joints"), compare, one, other, most=119)

    def test_papers_have_no_bound_of_joint_worlds(self):
        library = bounds.counters(15, 15)
        contents = sorted(oracle.contents_of("abcd"))
        full = (tuple("abcd"), "free")
        joints = tuple(
            (tuple(range(8)), ((one, "free"), full, (two, "free"), full, (one, "free"), full, (two, "free"), full)) for one in contents for two in contents
        )
        self.assertEqual((len(joints), first_joint(library, library)), (256, joints[0]))
        self.assertIs(is_comparison(library, library, ("alike", joints)), True)
        self.assertIs(is_comparison(library, library, ("alike", joints[:100] + joints[101:])), False)


class LikePython(Case):
    """Random pairs of libraries with equal faces, against slow searches by real classes."""

    def test_compare(self):
        told = {"apart": 0, "alike": 0}
        for seed, one, other, callers in pairs_of_libraries(200):
            first = slow.joint(oracle.PythonRun(one), oracle.PythonRun(other))
            self.assertEqual(first_joint(one, other), first)
            joints = slow.reached_joints(one, other, [first], callers, 25)
            if joints is None:
                self.raises(TooMany("joints"), compare, one, other, callers=callers, most=25)
                continue
            paper = compare(one, other, callers=callers, most=len(joints))
            if len(joints) > 1:
                self.raises(TooMany("joints"), compare, one, other, callers=callers, most=len(joints) - 1)
            steps = slow.fewest_parting_steps(lambda: (oracle.PythonRun(one), oracle.PythonRun(other)), one, callers, len(joints) + 1)
            if steps is None:
                self.is_same(paper, ("alike", tuple(joints)))
            else:
                self.assertEqual((paper[0], len(paper[1])), ("apart", steps), seed)
            self.assertIs(slow.is_comparison(one, other, paper, callers), True)
            self.assertIs(is_comparison(one, other, paper, callers=callers), True)
            self.assertIs(alike(one, other, callers=callers), steps is None)
            told[paper[0]] += 1
        self.assertGreater(min(told.values()), 25)

    def test_bent_papers(self):
        told = {True: 0, False: 0}
        for seed, one, other, callers in pairs_of_libraries(50):
            choose = random.Random(seed)
            try:
                paper = compare(one, other, callers=callers, most=12)
            except TooMany:
                continue
            things = list(some_bent(choose, paper, 12)) + [self.shuffled(choose, paper)]
            if paper[0] == "alike":
                things.append(("alike", self.more(choose, one, other, callers, paper[1])))
            for thing in things:
                wanted = slow.is_comparison(one, other, thing, callers)
                self.assertIs(is_comparison(one, other, thing, callers=callers), wanted, (seed, thing))
                told[wanted] += 1
        self.assertGreater(min(told.values()), 40)

    def shuffled(self, choose, paper):
        parts = list(paper[1] + paper[1][:2])
        choose.shuffle(parts)
        return (paper[0], tuple(parts))

    def more(self, choose, one, other, callers, joints):
        return stretched(choose, joints, lambda joint: slow.joints_away(one, other, joint, callers)[0])

    def test_joints_after(self):
        """Each step at a joint world leads where real runs lead that are put there, and parts where they part."""
        parted = 0
        for seed, one, other, callers in pairs_of_libraries(120):
            choose = random.Random(seed)
            joint = first_joint(one, other)
            for _ in range(6):
                left, right = slow.put_into_joint(one, other, joint)
                self.assertEqual(slow.joint(left, right), joint)
                for run, real in zip(sides(one, other, joint), (left, right)):
                    self.assertEqual((run.world, run.view), (real.world(), real.view()))
                steps = slow.steps_at(one, len(left.held), callers)
                if not steps:
                    break
                step = choose.choice(steps)
                before, after = joint, joint_after(one, other, joint, step)
                if slow.parts(left, right, step):
                    parted += 1
                    self.assertIsNone(after)
                else:
                    self.is_same(after, slow.joint(left, right))
                    joint = after
                self.assertIs(is_joint(one, other, before), True)
        self.assertGreater(parted, 10)
