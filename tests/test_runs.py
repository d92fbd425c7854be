"""Points 13 to 18 through class Run, and calls_of."""

import inspect
import itertools

from oncedefaults.errors import (
    BadArgument, BadHistory, BadMark, BadStep, BadWorld, GivenTwice, Missing, NoBox, NoKind, NoMethod, NoOption, TooManyArguments,
)
from oncedefaults.parts import Kind, Library, Method, Param
from oncedefaults.runs import Run, calls_of
from oncedefaults.texts import read_library
from oncedefaults.worlds import Table, first_world, is_world, report, steps_at
from tests import oracle, randoms, slow
from tests.helpers import OBJECTS, Case, emptying_example, family_example, first_example, mark
from tests.libraries import some_libraries
from tests.test_steps import NO_STEPS, call, calling_library

EMPTY, A, B, AB = (), ("a",), ("b",), ("a", "b")


def stands(run):
    """All that can be seen of a run."""
    return run.view, run.world, len(run), run.library


class Doing(Case):
    def test_first_example(self):
        library = first_example()
        run = Run(library)
        self.assertIs(run.library, library)
        self.assertEqual((run.view, run.world, len(run)), ((), ((0,), ((EMPTY, "free"),)), 0))
        self.is_same(run.call("base", "put", "a"), ("box", 0))
        self.is_same(run.call("base", "put", "b", into=()), ("box", 1))
        self.is_same(run.call("base", "put", m="b"), ("box", 0))
        self.is_same(run.view, (AB, B))
        self.is_same(run.world, ((0,), ((AB, "held"),)))
        self.assertEqual(len(run), 3)
        self.is_same(run.put(1, "a"), ("none",))
        self.is_same(run.take(0, "b"), ("none",))
        self.is_same((run.view, len(run)), ((A, AB), 5))
        self.is_same(run.step(("take", 0, "b")), ("none",))
        self.is_same((run.view, len(run)), ((A, AB), 6))

    def test_family_example(self):
        run = Run(family_example())
        self.is_same(run.world, ((0, -1), ((EMPTY, "free"),)))
        self.is_same(run.call("heir", "note", "a"), ("box", 0))
        self.is_same(run.world, ((0, 0), ((A, "free"),)))
        self.is_same(run.call("base", "note", "b"), ("box", 1))
        self.is_same(run.world, ((0, 0), ((AB, "free"),)))
        self.is_same(run.view, (A, AB))

    def test_names_of_the_interface(self):
        run = Run(library=first_example())
        self.assertEqual(run.step(step=call("base", "put", "a")), ("box", 0))
        self.assertEqual(run.call(kind="base", method="put", m="b"), ("box", 0))
        self.assertEqual(run.put(k=0, mark="a"), ("none",))
        self.assertEqual(run.take(k=0, mark="a"), ("none",))
        self.assertEqual(run.report(call=call("base", "put", "a")), (("box", AB), ()))
        self.assertEqual(Run.behind(library=first_example(), history=()).view, ())
        self.assertEqual(Run.put_into(library=first_example(), world=((0,), ((A, "held"),))).view, (A,))
        self.assertEqual(list(calls_of(library=Library())), [])

    def test_boxes_are_got_in_the_order_in_which_they_are_written(self):
        f = Method("f", Param("x"), Param("y"), rows=(("add", "x", ("a",)), ("new", "z", ("b",))), returns=("box", "z"))
        g = Method("g", Param("x"), Param("y"), returns=("box", "y"))
        library = Library(Kind("k", f, g))
        run = Run(library)
        self.assertEqual(run.call("k", "f", y=(), x=("b",)), ("box", 2))
        self.assertEqual(run.view, (EMPTY, AB, B))
        self.assertEqual(run.call("k", "g", y=1, x=1), ("box", 1))
        self.assertEqual(run.call("k", "g", (), y=3), ("box", 3))
        self.assertEqual(run.view, (EMPTY, AB, B, EMPTY))
        self.assertEqual(run.call("k", "f", y=("a",), x=4), ("box", 5))
        self.assertEqual(run.view[4:], (A, B))
        self.raises(BadArgument("y"), run.call, "k", "f", y=6, x=())
        self.raises(BadArgument("x"), run.call, "k", "f", y=(), x=7)
        self.assertEqual(len(run.view), 6)

    def test_boxes_in_no_place_any_more(self):
        library = read_library(
            "marks a\nkind k\nvalue v = {}\ndef get()\nx = cls.v\ny = {}\ncls.v = y\nreturn x\ndef set(box x)\ncls.v = x\nreturn none"
        )
        run = Run(library)
        self.assertEqual(run.call("k", "get"), ("box", 0))
        self.assertEqual(run.world, ((0,), ((EMPTY, "free"),)))
        run.put(0, "a")
        self.assertEqual((run.view, run.world), ((A,), ((0,), ((EMPTY, "free"),))))
        run.call("k", "set", 0)
        self.assertEqual((run.view, run.world), ((A,), ((0,), ((A, "held"),))))
        self.assertEqual(run.call("k", "get"), ("box", 0))

    def test_same_named_method_of_base_has_its_kind_as_cls(self):
        library = read_library("marks a\nkind k\nvalue v = {}\ndef f()\nx = {a}\ncls.v = x\nreturn x\nkind j(k)\nkind i(j)")
        run = Run(library)
        run.call("j", "f")
        self.assertEqual(run.world, ((0, 1, -1), ((EMPTY, "free"), (A, "held"))))
        run.call("i", "f")
        self.assertEqual(run.world, ((0, 1, 2), ((EMPTY, "free"), (A, "held"), (A, "held"))))

    def test_two_runs_share_nothing(self):
        library = first_example()
        one, other = Run(library), Run(library)
        behind, put = Run.behind(library, (call("base", "put", "a"),)), Run.put_into(library, ((0,), ((A, "held"),)))
        before = [stands(run) for run in (other, behind, put)]
        one.call("base", "put", "b")
        one.put(0, "a")
        self.assertEqual([stands(run) for run in (other, behind, put)], before)
        put.take(0, "a")
        behind.put(0, "b")
        self.assertEqual((other.view, behind.view, put.view, one.view), ((), (AB,), (EMPTY,), (AB,)))
        self.assertEqual(library, first_example())
        self.assertEqual(Run(library).world, first_world(library))

    def test_runs_equal_nothing_else(self):
        run = Run(first_example())
        for thing in [*OBJECTS, Run(first_example()), first_example()]:
            self.assertFalse(run == thing)
        self.assertTrue(run == run)

    def test_properties(self):
        run = Run(first_example())
        for name in ("view", "world"):
            self.assertIsInstance(vars(Run)[name], property)
            with self.assertRaises(AttributeError):
                setattr(run, name, ())


class Errors(Case):
    """The steps of class Run have the errors of 15, and change nothing then."""

    def setUp(self):
        self.run_ = Run(calling_library())
        self.run_.call("k", "f", "a", ("a",))
        self.assertEqual(self.run_.view, (A, EMPTY))

    def fails(self, wanted, ask, *args, **options):
        before = stands(self.run_)
        self.raises(wanted, ask, *args, **options)
        self.assertEqual(stands(self.run_), before)

    def fails_as_call(self, wanted, step):
        """Also as a step, as a newcomer's call, and behind another step of a history."""
        library = self.run_.library
        self.fails(wanted, self.run_.step, step)
        self.fails(wanted, self.run_.report, step)
        self.raises(wanted, report, library, step)
        self.raises(BadHistory(1), Run.behind, library, (call("k", "f", "a", ("a",)), step, step))
        if all(isinstance(name, str) for name, _ in step[4]) and len(dict(step[4])) == len(step[4]):
            self.fails(wanted, self.run_.call, step[1], step[2], *step[3], **dict(step[4]))

    def test_no_steps(self):
        for thing in [*NO_STEPS, *[thing for thing in OBJECTS if thing not in (call("base", "put"), ("put", 0, "a"))]]:
            self.fails(BadStep(thing), self.run_.step, thing)
            self.fails(BadStep(thing), self.run_.report, thing)
            self.raises(BadHistory(0), Run.behind, self.run_.library, (thing,))
        for thing in (("put", 0, "a"), ("take", 0, "a"), ("put", 9, "c"), ("take", [], [])):
            self.fails(BadStep(thing), self.run_.report, thing)

    def test_each_error_of_calls_in_order(self):
        for wanted, step in (
            (NoKind("no"), call("no", "no", 1, 2, 3, 4, 5, no=1)),
            (NoMethod("no"), call("k", "no", 1, 2, 3, 4, 5, no=1)),
            (NoMethod("h"), call("k", "h", 1, 2, 3, 4, 5, no=1)),
            (TooManyArguments(4), call("k", "f", 1, 2, 3, 4, no=1)),
            (TooManyArguments(1), call("j", "h", "a")),
            (NoOption("no"), ("call", "k", "f", (1,), (("no", 1), ("m", 1)))),
            (GivenTwice("m"), ("call", "k", "f", (1,), (("m", 1), ("no", 1)))),
            (GivenTwice("x"), ("call", "k", "f", (1,), (("x", 1), ("x", 1)))),
            (NoOption("no"), ("call", "k", "f", (1,), (("x", 1), ("no", 1), ("x", 1)))),
            (Missing("m"), ("call", "k", "f", (), (("n", 1),))),
            (Missing("x"), call("k", "f", 1)),
            (Missing("n"), call("j", "h", m=1)),
            (BadArgument("m"), call("k", "f", (), 9, y=9)),
            (BadArgument("x"), call("k", "f", "a", 9, y=9)),
            (BadArgument("y"), ("call", "k", "f", (), (("y", 9), ("x", 9), ("m", "c")))),
            (BadArgument("n"), call("k", "f", "a", (), "c", y=())),
        ):
            self.fails_as_call(wanted, step)

    def test_any_object_in_calls(self):
        for thing in OBJECTS:
            if thing != "k":
                self.fails_as_call(NoKind(thing), call(thing, "f"))
            self.fails_as_call(NoMethod(thing), call("k", thing))
            if thing not in ("m", "x", "n", "y"):
                self.fails_as_call(NoOption(thing), ("call", "k", "f", (), ((thing, thing),)))
            if thing not in ("a", "b"):
                self.fails_as_call(BadArgument("m"), call("k", "f", thing, ()))
            taken = [EMPTY, A, AB]
            if thing not in taken and (type(thing) is not int or thing not in (0, 1)):
                self.fails_as_call(BadArgument("x"), call("k", "f", "a", thing))

    def test_put_and_take(self):
        for word, ask in (("put", self.run_.put), ("take", self.run_.take)):
            for thing in [2, -1, "0", (0,), True, False, *OBJECTS]:
                if type(thing) is not int or thing not in (0, 1):
                    for wrong in ("a", "c", thing):
                        self.fails(NoBox(thing), ask, thing, wrong)
                        self.fails(NoBox(thing), self.run_.step, (word, thing, wrong))
            for thing in ["c", "A", *OBJECTS]:
                if thing not in ("a", "b"):
                    self.fails(BadMark(thing), ask, 1, thing)
                    self.fails(BadMark(thing), self.run_.step, (word, 1, thing))
                    self.raises(BadHistory(1), Run.behind, self.run_.library, (call("k", "f", "a", ()), (word, 1, thing)))

    def test_newcomers_hold_nothing(self):
        self.fails(BadArgument("x"), self.run_.report, call("k", "f", "a", 0))
        self.fails(BadArgument("y"), self.run_.report, call("k", "f", "a", (), y=1))
        self.assertEqual(self.run_.report(call("k", "f", "a", (), y=0)), (("own", 0), (EMPTY,)))


class Behind(Case):
    def test_histories(self):
        history = (call("base", "put", "a"), ("put", 0, "b"), call("base", "put", "a", 0))
        run = Run.behind(first_example(), history)
        self.assertIs(type(run), Run)
        self.is_same((run.view, run.world, len(run)), ((AB,), ((0,), ((AB, "held"),)), 3))
        self.assertEqual(run.call("base", "put", "a", ()), ("box", 1))
        self.assertEqual(len(run), 4)
        run = Run.behind(first_example(), ())
        self.is_same((run.view, run.world, len(run)), ((), ((0,), ((EMPTY, "free"),)), 0))

    def test_long_histories(self):
        step = call("base", "put", "a")
        self.assertEqual(len(Run.behind(first_example(), (step,) * 400)), 400)
        self.assertEqual(len(Run.behind(first_example(), (call("base", "put", "a", ()),) * 400).view), 400)
        self.raises(BadHistory(-1), Run.behind, first_example(), (step,) * 401)
        self.raises(BadHistory(-1), Run.behind, first_example(), (7,) * 401)
        self.raises(BadHistory(399), Run.behind, first_example(), (step,) * 399 + (7,))
        run = Run.behind(first_example(), (step,) * 400)
        run.step(step)
        self.assertEqual(len(run), 401)

    def test_no_histories(self):
        for thing in OBJECTS:
            if not isinstance(thing, tuple) or len(thing) > 400:
                self.raises(BadHistory(-1), Run.behind, first_example(), thing)
            elif thing != ():
                self.raises(BadHistory(0), Run.behind, first_example(), thing)
            if thing != ("put", 0, "a"):
                self.raises(BadHistory(1), Run.behind, first_example(), (call("base", "put", "a"), thing, thing))
        self.raises(BadHistory(1), Run.behind, first_example(), (call("base", "put", "a"), ("put", 1, "a"), 7))
        self.raises(BadHistory(2), Run.behind, first_example(), (call("base", "put", "a"), ("put", 0, "a"), ("put", True, "a")))
        self.raises(BadHistory(-1), Run.behind, first_example(), [call("base", "put", "a")])


class PutInto(Case):
    def test_held_boxes_are_numbered_in_order(self):
        library = read_library("marks a b\nkind k\nvalue u = {}\nvalue v = {}\nvalue w = {}\ndef f(box x=once {})\nreturn x")
        world = ((0, 1, 0, 2), ((A, "held"), (B, "free"), (AB, "held")))
        run = Run.put_into(library, world)
        self.assertIs(type(run), Run)
        self.is_same((run.world, run.view, len(run)), (world, (A, AB), 0))
        self.assertEqual(run.call("k", "f"), ("box", 1))
        self.assertEqual(run.take(0, "a"), ("none",))
        self.assertEqual((run.world, len(run)), (((0, 1, 0, 2), ((EMPTY, "held"), (B, "free"), (AB, "held"))), 2))

    def test_unset_values(self):
        run = Run.put_into(family_example(), ((0, -1), ((A, "free"),)))
        self.assertEqual(run.call("heir", "note", "b"), ("box", 0))
        self.assertEqual(run.world, ((0, 0), ((AB, "free"),)))
        run = Run.put_into(family_example(), ((0, 1), ((A, "free"), (B, "held"))))
        self.assertEqual(run.report(call("heir", "note", "b")), (("box", B), ()))
        self.assertEqual(run.call("heir", "note", "a"), ("box", 1))
        self.assertEqual((run.world, run.view), (((0, 1), ((A, "free"), (AB, "held"))), (AB, AB)))

    def test_no_worlds(self):
        wrong = [
            [(0,), ((EMPTY, "free"),)], ([0], ((EMPTY, "free"),)), ((0,), [(EMPTY, "free")]), ((0,), ([EMPTY, "free"],)),
            ((0,), (([], "free"),)), ((False,), ((EMPTY, "free"),)), ((True,), ((EMPTY, "free"),)), ((1,), ((EMPTY, "free"),)),
            ((-1,), ()), ((0, 0), ((EMPTY, "free"),)), ((), ()), ((0,), ()), ((0,), ((EMPTY, "free"), (EMPTY, "free"))),
            ((0,), ((EMPTY, "own"),)), ((0,), ((EMPTY, True),)), ((0,), ((("b", "a"), "free"),)), ((0,), ((("c",), "free"),)),
            ((0,), ((("a", "a"), "free"),)), ((0,), ((("a", True), "free"),)), ((0,), (("a", "free"),)), ((0,), ((EMPTY,),)),
            ((0,), ((EMPTY, "free", "free"),)), ((10 ** 39,), ((EMPTY, "free"),)), ((None,), ((EMPTY, "free"),)),
        ]
        for thing in wrong + [thing for thing in OBJECTS if thing != ((0,), (((), "free"),))]:
            self.raises(BadWorld(thing), Run.put_into, first_example(), thing)
            self.assertIs(is_world(first_example(), thing), False)

    def test_all_worlds(self):
        """A run that is put into any world has it, and reports as real classes with these boxes do."""
        library = read_library(
            "marks a\nkind k\nvalue v = {}\ndef f(box x=once {})\nif x is x: cls.v |= {a}\nreturn x\nkind j(k)\ndef g(box x)\ny = cls.v"
            "\nreturn x == y"
        )
        found = 0
        for seats in itertools.product((-1, 0, 1, 2), repeat=3):
            for boxes in itertools.product([(EMPTY, "free"), (EMPTY, "held"), (A, "free"), (A, "held")], repeat=len(set(seats) - {-1})):
                world = (seats, boxes)
                self.assertEqual(is_world(library, world), slow.is_world_of(library, world))
                if is_world(library, world):
                    found += 1
                    run = Run.put_into(library, world)
                    self.assertEqual((run.world, len(run)), (world, 0))
                    self.assertEqual(run.view, tuple(contents for contents, word in boxes if word == "held"))
                    for one in calls_of(library):
                        self.assertEqual(run.report(one), report(library, one, world=world))
                        self.assertEqual(run.report(one), slow.report(library, world, one))
                    self.assertEqual(run.world, world)
                else:
                    self.raises(BadWorld(world), Run.put_into, library, world)
        self.assertEqual(found, 4 + 3 * 16 + 4 + 64 + 16)


class LikePython(Case):
    """Random libraries do what real classes do, through class Run."""

    def test_runs(self):
        for seed in range(300):
            maker = randoms.Maker(seed, marks=1 + seed % 3, kinds=1 + seed % 4)
            library = maker.library()
            run, real, history = Run(library), oracle.PythonRun(library), ()
            for _ in range(10):
                steps = list(oracle.steps_at(library, min(len(real.held), 3)))
                if not steps:
                    break
                step = maker.random.choice(steps)
                if not real.can_do(step):
                    self.raises(BadHistory(len(history)), Run.behind, library, (*history, step))
                    continue
                self.assertEqual(self.done(run, step), real.step(step), (seed, step))
                history += (step,)
                self.assertEqual((run.view, run.world, len(run)), (real.view(), real.world(), len(history)))
            behind = Run.behind(library, history)
            self.assertEqual(stands(behind), stands(run))
            self.same_reports(library, run, history)

    def done(self, run, step):
        if step[0] == "call":
            return run.call(step[1], step[2], *step[3], **dict(step[4]))
        return (run.put if step[0] == "put" else run.take)(*step[1:])

    def same_reports(self, library, run, history):
        """A newcomer's report behind a history is the one at its world."""
        before = stands(run)
        for one in list(itertools.islice(calls_of(library), 8)):
            given = run.report(one)
            self.is_same(given, oracle.run_behind(library, history).report(one))
            self.is_same(given, report(library, one, world=run.world))
            self.is_same(given, Run.put_into(library, run.world).report(one))
        self.assertEqual(stands(run), before)

    def test_any_object_as_a_step(self):
        """Steps with parts replaced can be done as real calls can."""
        parts = [0, 1, 2, -1, True, False, None, "a", "b", "f", "g", "x", (), A, AB, [], ["a"], ("b", "a"), ("a", "a")]
        for seed in range(150):
            maker = randoms.Maker(seed, marks=2, kinds=1)
            library = maker.library()
            history = ()
            for _ in range(15):
                real = oracle.run_behind(library, history)
                steps = list(oracle.steps_at(library, min(len(real.held), 2)))
                if not steps:
                    break
                step = self.replaced(maker.random, maker.random.choice(steps), parts)
                run = Run.behind(library, history)
                if real.can_do(step):
                    self.assertEqual(run.step(step), real.step(step))
                    history += (step,)
                else:
                    before = stands(run)
                    with self.assertRaises(TypeError):
                        run.step(step)
                    self.assertEqual(stands(run), before)
                    self.raises(BadHistory(len(history)), Run.behind, library, (*history, step))

    def replaced(self, random, thing, parts):
        if isinstance(thing, tuple) and thing and random.random() < 0.8:
            at = random.randrange(len(thing))
            return (*thing[:at], self.replaced(random, thing[at], parts), *thing[at + 1:])
        return random.choice([thing, thing, *parts])

    def test_worlds_of_tables(self):
        for library in (first_example(), family_example(), emptying_example()):
            table = Table(library)
            for at, world in enumerate(table):
                run = Run.behind(library, table.history(at))
                self.assertEqual((run.world, len(run)), (world, table.depth(at)))
                self.assertEqual(Run.put_into(library, world).world, world)
                for one in calls_of(library):
                    self.assertEqual(table.reports(one)[at], run.report(one))


    def test_random_tables(self):
        """The worlds one step away are those of runs that are put there and do the steps at the world."""
        for seed, library, callers, (order, histories, _) in some_libraries(60, first=500):
            table = Table(library, callers=callers)
            calls = list(calls_of(library))
            for at, world in enumerate(table):
                for history in (table.history(at), histories[world]):
                    run = Run.behind(library, history)
                    self.assertEqual((run.world, len(run), table(history)), (world, table.depth(at), at))
                after = []
                for step in steps_at(library, world, callers=callers):
                    run = Run.put_into(library, world)
                    self.assertIs(callers is None or callers.allows(step, len(run.view)), True)
                    run.step(step)
                    after.append(run.world)
                self.assertEqual([table[index] for index in table.after(at)], sorted(set(after), key=list(table).index))
                for one in calls[:4]:
                    self.is_same(Run.put_into(library, world).report(one), table.reports(one)[at])
                    self.is_same(Run.behind(library, histories[world]).report(one), table.reports(one)[at])
            self.assertEqual(list(table), order)


class Calls(Case):
    def test_first_example(self):
        calls = [call("base", "put", m, *more) for m in "ab" for more in ((), (EMPTY,), (A,), (AB,), (B,))]
        self.is_same(list(calls_of(first_example())), calls)
        self.assertTrue(inspect.isgeneratorfunction(calls_of))

    def test_options(self):
        f = Method("f", mark("m", "a"), Param("x", default=("anew", ()), named=True), Param("y", named=True))
        library = Library(Kind("k", f), marks=("a",))
        wanted = []
        for m in (None, "a"):
            for x in (None, EMPTY, A):
                for y in [EMPTY, A] + ([0] if x is not None else []):
                    options = [(name, one) for name, one in (("x", x), ("y", y)) if one is not None]
                    wanted.append(("call", "k", "f", () if m is None else (m,), tuple(options)))
        self.is_same(list(calls_of(library)), wanted)

    def test_random_libraries(self):
        for seed in range(200):
            library = randoms.library(seed, marks=1 + seed % 2, kinds=1 + seed % 3)
            self.is_same(list(calls_of(library)), list(oracle.calls_at(library, 0)))

    def test_millions(self):
        params = [mark("m", "a"), mark("n", "a"), Param("x", default=("once", ())), Param("y", default=("once", ()))]
        library = Library(Kind.of("k", [Method.of(name, params) for name in "wxyz"]), marks=tuple("abcdef"))
        some = list(itertools.islice(calls_of(library), 70))
        self.is_same(some, list(itertools.islice(oracle.calls_at(library, 0), 70)))
