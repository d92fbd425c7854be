"""Points 13 to 16: steps, their errors, their answers and reports."""

from oncedefaults.calling import do_step, report_at
from oncedefaults.errors import (
    BadArgument, BadMark, BadStep, GivenTwice, Missing, NoBox, NoKind, NoMethod, NoOption, TooManyArguments,
)
from oncedefaults.parts import Kind, Library, Method, Param
from oncedefaults.plans import Plan
from oncedefaults.states import held_in_world, new_state, world_of
from oncedefaults.steps import with_numbers
from oncedefaults.texts import read_library
from oncedefaults.worlds import Table, report
from tests import oracle, randoms
from tests.helpers import OBJECTS, Case, family_example, first_example, mark


def calling_library():
    f = Method("f", mark("m"), Param("x"), mark("n", "b"), Param("y", default=("once", ()), named=True), returns=("box", "y"))
    g = Method("g", Param("x", default=("anew", ("a",))), Param("y", default=("anew", ("b",))), returns=("test", ("is", "x", "y")))
    h = Method("h", mark("m", named=True), mark("n", named=True))
    return Library(Kind("k", f, g), Kind("j", h, base="k"))


def call(kind, name, *args, **options):
    return ("call", kind, name, args, tuple(options.items()))


NO_STEPS = [
    ("call",), ("call", "k", "f", ()), ("call", "k", "f", (), (), ()), ("call", "k", "f", [], ()), ("call", "k", "f", (), []),
    ("call", "k", "f", (), (("x",),)), ("call", "k", "f", (), (["x", ()],)), ("call", "k", "f", (), (("x", (), ()),)),
    ("call", "k", "f", (), (("x", ()), "xy")), ("call", "k", "f", (), ("ab",)), ("call", "k", "f", "ab", ()), ("call", "k", "f", None, ()),
    ["call", "k", "f", (), ()], (["call"], "k", "f", (), ()), ("Call", "k", "f", (), ()), ("put", "k", "f", (), ()), (True, "k", "f", (), ()),
    ("put", 0), ("put", 0, "a", "b"), ["put", 0, "a"], ("call", 0, "a"), ("add", 0, "a"), (("put",), 0, "a"), ("take",), "put", "take",
]


class Errors(Case):
    def setUp(self):
        self.library = calling_library()
        self.state = new_state(Plan(self.library))
        do_step(self.state, call("k", "f", "a", ("a",)))

    def fails(self, wanted, step):
        """The error comes from a run that holds two boxes, and changes nothing there."""
        before = (world_of(self.state), list(self.state.held), list(self.state.boxes))
        self.raises(wanted, do_step, self.state, step)
        self.assertEqual(before, (world_of(self.state), list(self.state.held), list(self.state.boxes)))

    def fails_always(self, wanted, step):
        """The error comes with and without held boxes."""
        self.fails(wanted, step)
        self.raises(wanted, report, self.library, step)
        self.raises(wanted, report_at, self.state, step)

    def test_held(self):
        self.assertEqual([self.state.boxes[box] for box in self.state.held], [("a",), ()])

    def test_no_steps(self):
        for thing in NO_STEPS:
            self.fails_always(BadStep(thing), thing)
        for thing in OBJECTS:
            if thing not in (("put", 0, "a"), ("call", "base", "put", (), ())):
                self.fails_always(BadStep(thing), thing)

    def test_all_else_in_a_step_is_any_object(self):
        for thing in OBJECTS:
            if thing not in ("k", "j"):
                self.fails_always(NoKind(thing), ("call", thing, thing, (thing,), ((thing, thing),)))
            if thing not in ("f", "g"):
                self.fails_always(NoMethod(thing), ("call", "k", thing, (thing,), ((thing, thing),)))
            if thing not in ("m", "x", "n", "y"):
                self.fails_always(NoOption(thing), ("call", "k", "f", (), ((thing, thing),)))
            if thing not in ("a", "b"):
                self.fails_always(BadArgument("m"), call("k", "f", thing, thing))
                self.fails_always(BadArgument("n"), call("k", "f", "a", (), thing))
            if thing not in ((), ("a",), ("a", "b")):
                self.raises(BadArgument("x"), report, self.library, call("k", "f", "a", thing))
                if not isinstance(thing, int) or isinstance(thing, bool) or not 0 <= thing <= 1:
                    self.fails(BadArgument("x"), call("k", "f", "a", thing))
            if not isinstance(thing, int) or isinstance(thing, bool) or not 0 <= thing <= 1:
                for word in ("put", "take"):
                    self.fails(NoBox(thing), (word, thing, thing))
            if thing not in ("a", "b"):
                for word in ("put", "take"):
                    self.fails(BadMark(thing), (word, 1, thing))

    def test_kinds_and_methods(self):
        self.fails_always(NoMethod("h"), call("k", "h", 1, 2, 3))
        self.fails_always(NoKind("i"), call("i", "f"))
        self.fails_always(Missing("m"), call("j", "f"))

    def test_too_many_arguments(self):
        self.fails_always(TooManyArguments(4), call("k", "f", 1, 2, 3, 4, zz=1))
        self.fails_always(TooManyArguments(1), call("j", "h", 1, m=2, zz=1))
        self.fails_always(TooManyArguments(3), call("k", "g", (), (), ()))

    def test_options(self):
        self.fails_always(NoOption("z"), call("k", "f", 1, 2, 3, z=1, m=2))
        self.fails_always(GivenTwice("m"), call("k", "f", 1, m=2, z=1))
        self.fails_always(GivenTwice("n"), call("k", "f", 1, 2, 3, y=1, n=2))
        self.fails_always(GivenTwice("y"), ("call", "k", "f", (), (("y", 1), ("y", 1), ("z", 1))))
        self.fails_always(NoOption("z"), ("call", "k", "f", (), (("y", 1), ("z", 1), ("y", 1))))

    def test_missing(self):
        self.fails_always(Missing("m"), call("k", "f", x=1, y=2))
        self.fails_always(Missing("x"), call("k", "f", 1))
        self.fails_always(Missing("x"), call("k", "f", 1, n=1))
        self.fails_always(Missing("n"), call("j", "h", m=1))

    def test_arguments_are_looked_at_as_written(self):
        self.fails_always(BadArgument("m"), call("k", "f", 1, 77, 3))
        self.fails_always(BadArgument("x"), call("k", "f", "a", "a", "c"))
        self.fails_always(BadArgument("y"), call("k", "f", "a", y="a", n="c", x="c"))
        self.fails_always(BadArgument("n"), call("k", "f", "a", n="c", y="a", x="c"))
        self.fails_always(BadArgument("n"), call("k", "f", "a", n=(), x=()))
        for items in (("b", "a"), ("a", "a"), ("c",), ("a", "c"), ("a", 1), (("a",),), ["a"], "a", "", None):
            self.fails_always(BadArgument("x"), call("k", "f", "a", items))

    def test_numbers_of_boxes(self):
        for number in (-1, 2, 3, 10 ** 39, True, False):
            self.fails(BadArgument("x"), call("k", "g", number))
        self.fails(BadArgument("y"), call("k", "g", 0, 2))
        self.fails(BadArgument("y"), call("k", "g", (), 3))
        self.fails(BadArgument("x"), call("k", "g", x=2, y=()))
        self.raises(BadArgument("x"), report, self.library, call("k", "g", 0))
        self.raises(BadArgument("y"), report, self.library, call("k", "g", (), 1))
        self.raises(BadArgument("x"), report, self.library, ("call", "k", "g", (), (("x", 0), ("y", ()))))
        self.assertEqual(do_step(self.state, call("k", "g", 0, 1)), ("no",))
        self.assertEqual(do_step(self.state, call("k", "g", (), 2)), ("yes",))
        self.assertEqual(do_step(self.state, ("call", "k", "g", (), (("y", ()), ("x", 3)))), ("yes",))
        self.assertEqual(len(self.state.held), 4)

    def test_no_box_and_bad_mark(self):
        for number in (2, -1, 10 ** 39, True, False, "0", None, (0,)):
            self.fails(NoBox(number), ("put", number, "zz"))
            self.fails(NoBox(number), ("take", number, "a"))
        for name in ("c", "", "A", ("a",), ["a"], True, None):
            self.fails(BadMark(name), ("put", 0, name))
            self.fails(BadMark(name), ("take", 1, name))

    def test_put_and_take_are_no_newcomers_calls(self):
        for step in (("put", 0, "a"), ("take", 0, "a"), ("put", 7, "c"), ("put", [], [])):
            self.raises(BadStep(step), report, self.library, step)
            self.raises(BadStep(step), report_at, self.state, step)
            self.raises(BadStep(step), Table(first_example()).reports, step)


class Numbers(Case):
    def test_other_numbers(self):
        step = ("call", "k", "f", (0, "a", 1, ("b",), 2), (("x", 3), ("y", "b"), ("z", ()), ("w", 1)))
        wanted = ("call", "k", "f", (5, "a", 3, ("b",), 7), (("x", 8), ("y", "b"), ("z", ()), ("w", 3)))
        self.assertEqual(with_numbers(step, [5, 3], 7), wanted)
        self.assertEqual(with_numbers(step, [], 0), step)
        self.assertEqual(with_numbers(("put", 1, "a"), [5, 3], 7), ("put", 3, "a"))
        self.assertEqual(with_numbers(("take", 0, "b"), [5, 3], 7), ("take", 5, "b"))

    def test_held_in_world(self):
        library = read_library(
            "marks a\nkind k\nvalue t = {}\nvalue u = {}\nvalue v = k.t\ndef f()\nx = k.u\nreturn x\ndef g()\nx = k.t\nreturn x"
            "\ndef h()\nx = {}\nreturn x"
        )
        state = new_state(Plan(library))
        numbers = []
        for name in "hfhg":
            do_step(state, call("k", name))
            numbers.append(held_in_world(state))
        self.assertEqual(numbers, [[], [1], [1], [3, 1]])


class Answers(Case):
    def test_first_example(self):
        state = new_state(Plan(first_example()))
        self.assertEqual(do_step(state, call("base", "put", "a")), ("box", 0))
        self.assertEqual(do_step(state, call("base", "put", "b", into=())), ("box", 1))
        self.assertEqual(do_step(state, call("base", "put", m="b")), ("box", 0))
        self.assertEqual([state.boxes[box] for box in state.held], [("a", "b"), ("b",)])
        self.assertEqual(world_of(state), ((0,), ((("a", "b"), "held"),)))

    def test_family_example(self):
        state = new_state(Plan(family_example()))
        self.assertEqual(world_of(state), ((0, -1), (((), "free"),)))
        self.assertEqual(do_step(state, call("heir", "note", "a")), ("box", 0))
        self.assertEqual(world_of(state), ((0, 0), ((("a",), "free"),)))

    def test_put_and_take(self):
        state = new_state(Plan(first_example()))
        do_step(state, call("base", "put", "b"))
        for step, contents in (
            (("put", 0, "a"), ("a", "b")), (("put", 0, "a"), ("a", "b")), (("take", 0, "b"), ("a",)), (("take", 0, "b"), ("a",)),
        ):
            self.assertEqual(do_step(state, step), ("none",))
            self.assertEqual(world_of(state), ((0,), ((contents, "held"),)))

    def test_reports(self):
        library = first_example()
        self.is_same(report(library, call("base", "put", "a")), (("box", ("a",)), ()))
        self.is_same(report(library, call("base", "put", "b", ("a",))), (("own", 0), (("a", "b"),)))
        world = ((0,), ((("b",), "held"),))
        self.is_same(report(library, call("base", "put", "a"), world=world), (("box", ("a", "b")), ()))
        self.is_same(report(library=library, call=call("base", "put", "a", ()), world=world), (("own", 0), (("a",),)))
        self.assertEqual(world, ((0,), ((("b",), "held"),)))
        swap = Method("swap", Param("x"), Param("y"), rows=(("add", "x", ("a",)), ("name", "z", "y")), returns=("box", "z"))
        none = Method("nonex", Param("x", default=("once", ())), rows=(("add", "x", ("b",)),))
        same = Method("same", Param("x"), Param("y", default=("once", ())), returns=("test", ("equal", "x", "y")))
        library = Library(Kind("k", swap, none, same))
        self.is_same(report(library, call("k", "swap", (), ("b",))), (("own", 1), (("a",), ("b",))))
        self.is_same(report(library, ("call", "k", "swap", (), (("y", ()), ("x", 0)))), (("own", 0), (("a",),)))
        self.is_same(report(library, ("call", "k", "swap", (), (("y", ()), ("x", ("b",))))), (("own", 0), ((), ("a", "b"))))
        self.is_same(report(library, call("k", "nonex")), (("none",), ()))
        self.is_same(report(library, call("k", "nonex", ())), (("none",), (("b",),)))
        self.is_same(report(library, call("k", "same", ())), (("yes",), ((),)))
        self.is_same(report(library, call("k", "same", ("a",))), (("no",), (("a",),)))

    def test_copies_are_other_boxes(self):
        f = Method("f", Param("x", default=("once", ("a",))), returns=("copy", "x"))
        state = new_state(Plan(Library(Kind("k", f))))
        self.assertEqual([do_step(state, call("k", "f")) for _ in range(2)], [("box", 0), ("box", 1)])
        do_step(state, ("put", 0, "b"))
        self.assertEqual([state.boxes[box] for box in state.held], [("a", "b"), ("a",)])

    def test_a_report_changes_nothing(self):
        state = new_state(Plan(first_example()))
        do_step(state, call("base", "put", "a"))
        before = (world_of(state), list(state.held), list(state.boxes))
        self.is_same(report_at(state, call("base", "put", "b")), (("box", ("a", "b")), ()))
        self.assertEqual(before, (world_of(state), list(state.held), list(state.boxes)))


class LikePython(Case):
    """Random libraries do what real classes do."""

    def test_runs(self):
        for seed in range(400):
            maker = randoms.Maker(seed, marks=1 + seed % 3, kinds=1 + seed % 4)
            library = maker.library()
            state, run = new_state(Plan(library)), oracle.PythonRun(library)
            self.assertEqual(world_of(state), run.world())
            for _ in range(12):
                steps = list(oracle.steps_at(library, min(len(run.held), 2)))
                if not steps:
                    break
                step = maker.random.choice(steps)
                step = self.with_any_numbers(maker, step, len(run.held))
                self.assertEqual(do_step(state, step), run.step(step), (seed, step))
                self.assertEqual(tuple(state.boxes[box] for box in state.held), run.view(), (seed, step))
                self.assertEqual(world_of(state), run.world(), (seed, step))
            self.same_reports(maker, library, state, run)

    def with_any_numbers(self, maker, step, held):
        """Numbers of held boxes are drawn again from all of them; those of new ones go on behind all."""
        low = min(held, 2)

        def drawn(argument):
            if not isinstance(argument, int):
                return argument
            return maker.random.randrange(held) if argument < low else argument - low + held

        if step[0] != "call":
            return (step[0], drawn(step[1]), step[2])
        return (*step[:3], tuple(drawn(one) for one in step[3]), tuple((name, drawn(one)) for name, one in step[4]))

    def same_reports(self, maker, library, state, run):
        calls = list(oracle.calls_at(library, 0))
        if calls:
            step = maker.random.choice(calls)
            options = list(step[4])
            if not any(isinstance(one, int) for _, one in options) and not any(isinstance(one, int) for one in step[3]):
                maker.random.shuffle(options)
            step = (*step[:4], tuple(options))
            self.assertEqual(report(library, step, world=world_of(state)), report_at(state, step))
            self.assertEqual(report_at(state, step), run.report(step), step)
