"""Points 16 to 18 and 20: worlds, and the steps at them."""

import itertools

from oncedefaults.errors import BadWorld
from oncedefaults.parts import Kind, Library, Method, Param
from oncedefaults.plans import Plan
from oncedefaults.states import state_in, world_of
from oncedefaults.worlds import Callers, first_world, is_world, report, steps_at
from tests import oracle, randoms
from tests.helpers import OBJECTS, Case, family_example, first_example, mark


def three_places():
    """A class value, the same one at an heir, where it is unset, and a default."""
    f = Method("f", Param("x", default=("early", "k", "v")))
    return Library(Kind("k", f, values=(("v", ("once", ("a",))),)), Kind("j", base="k"))


class Worlds(Case):
    def test_first_worlds(self):
        self.is_same(first_world(first_example()), ((0,), (((), "free"),)))
        self.is_same(first_world(library=family_example()), ((0, -1), (((), "free"),)))
        self.is_same(first_world(three_places()), ((0, -1, 0), ((("a",), "free"),)))
        self.is_same(first_world(Library()), ((), ()))
        for seed in range(200):
            library = randoms.library(seed, kinds=4)
            self.is_same(first_world(library), oracle.PythonRun(library).world())
            self.assertTrue(is_world(library, first_world(library)))

    def test_worlds(self):
        library = three_places()
        for seats in ((0, -1, 0), (0, 0, 0), (0, -1, 1), (0, 0, 1), (0, 1, 0), (0, 1, 1), (0, 1, 2)):
            for boxes in itertools.product(
                [(contents, hold) for contents in ((), ("a",), ("a", "b"), ("b",)) for hold in ("held", "free")], repeat=max(seats) + 1,
            ):
                self.assertIs(is_world(library, (seats, boxes)), True)
        self.assertIs(is_world(library=Library(), thing=((), ())), True)

    def test_no_worlds(self):
        library = three_places()
        free = ((), "free")
        wrong = [
            ((0, -1, 0), (free, free)), ((0, -1, 0), ()), ((0, -1, 1), (free,)), ((1, -1, 0), (free, free)), ((0, 2, 1), (free,) * 3),
            ((1, 1, 1), (free,)), ((0, 0, 2), (free,) * 3), ((-1, 0, 0), (free,)), ((0, 0, -1), (free,)), ((0, -2, 0), (free,)),
            ((-1, -1, -1), ()), ((0, 0), (free,)), ((0, 0, 0, 0), (free,)), ((), ()), ([0, -1, 0], (free,)), ((0, -1, 0), [free]),
            [(0, -1, 0), (free,)], ((0, -1, 0), (free,), ()), ((0, -1, 0),), ((0, -1, False), (free,)), ((False, -1, 0), (free,)),
            ((0, True, 0), (free, free)), ((0, "0", 0), (free,)), ((0, None, 0), (free,)), ((0, (0,), 0), (free,)), ((0, 10 ** 39, 0), (free,)),
            ((0, -1, 0), (["free"],)), ((0, -1, 0), ([(), "free"],)), ((0, -1, 0), (([], "free"),)), ((0, -1, 0), ((["a"], "free"),)),
            ((0, -1, 0), ((("b", "a"), "free"),)), ((0, -1, 0), ((("a", "a"), "free"),)), ((0, -1, 0), ((("c",), "free"),)),
            ((0, -1, 0), ((("a", 1), "free"),)), ((0, -1, 0), (("a", "free"),)), ((0, -1, 0), (((), "Free"),)), ((0, -1, 0), (((), True),)),
            ((0, -1, 0), (((), "held", "free"),)), ((0, -1, 0), (((),),)), ((0, -1, 0), (((), ("held",)),)), ((0, -1, 0), (((True,), "held"),)),
        ]
        for thing in wrong + OBJECTS:
            self.assertIs(is_world(library, thing), False, thing)
            self.raises(BadWorld(thing), list_steps, library, thing)
            if thing is not None:
                self.raises(BadWorld(thing), report, library, ("call", "k", "f", (), ()), world=thing)
                self.raises(BadWorld(thing), report, library, 7, world=thing)
        for thing in OBJECTS:
            if not (thing == ((0,), (((), "free"),)) and isinstance(thing[0][0], int)):
                self.assertIs(is_world(first_example(), thing), False, thing)
            for at in range(3):
                seats = (0, -1, 0)[:at] + (thing,) + (0, -1, 0)[at + 1:]
                if not (isinstance(thing, int) and not isinstance(thing, bool)):
                    self.assertIs(is_world(library, (seats, (free,))), False)
            if thing not in ((), ("a",), ("a", "b")):
                self.assertIs(is_world(library, ((0, -1, 0), ((thing, "held"),))), False)
            self.assertIs(is_world(library, ((0, -1, 0), (((), thing),))), False)
            self.assertIs(is_world(library, ((0, -1, 0), (thing,))), False)
            self.assertIs(is_world(library, ((0, -1, 0), thing)), False)
        self.assertIs(is_world(three_places(), ((0, -1, 0), ((("a", "b"), "held"),))), True)
        self.assertIs(is_world(Library(), ((), [])), False)

    def test_put_into_a_world(self):
        for seed in range(150):
            maker = randoms.Maker(seed, kinds=1 + seed % 4)
            library = maker.library()
            world = self.some_world(maker, library)
            self.assertTrue(is_world(library, world))
            state = state_in(Plan(library), world)
            self.assertEqual(world_of(state), world)
            held = [contents for contents, hold in world[1] if hold == "held"]
            self.assertEqual([state.boxes[box] for box in state.held], held)

    def some_world(self, maker, library):
        unset = [seat == -1 for seat in first_world(library)[0]]
        seats = []
        for may in unset:
            seats.append(maker.random.randrange(-1 if may else 0, max(seats, default=-1) + 2))
        boxes = tuple((maker.items(), maker.random.choice(["held", "free"])) for _ in range(max(seats, default=-1) + 1))
        return tuple(seats), boxes


def list_steps(library, world, **options):
    return list(steps_at(library, world, **options))


class Steps(Case):
    def test_steps_in_order(self):
        f = Method("f", mark("m"), Param("x", default=("once", ())), Param("y", named=True), returns=("box", "x"))
        library = Library(Kind("k", f), marks=("a",))
        free = ((0,), (((), "free"),))

        def call(*args, **options):
            return ("call", "k", "f", args, tuple(options.items()))

        at_free = [
            call("a", y=()), call("a", y=("a",)), call("a", (), y=()), call("a", (), y=("a",)), call("a", (), y=0),
            call("a", ("a",), y=()), call("a", ("a",), y=("a",)), call("a", ("a",), y=0),
        ]
        self.is_same(list_steps(library, free), at_free)
        held = ((0,), ((("a",), "held"),))
        with_held = [
            call("a", y=()), call("a", y=("a",)), call("a", y=0), call("a", (), y=()), call("a", (), y=("a",)), call("a", (), y=0), call("a", (), y=1),
            call("a", ("a",), y=()), call("a", ("a",), y=("a",)), call("a", ("a",), y=0), call("a", ("a",), y=1),
            call("a", 0, y=()), call("a", 0, y=("a",)), call("a", 0, y=0),
        ]
        changes = [("put", 0, "a"), ("take", 0, "a")]
        self.is_same(list_steps(library=library, world=held), with_held + changes)
        self.is_same(list_steps(library, held, callers=None), with_held + changes)
        self.is_same(list_steps(library, held, callers=Callers(changes=False)), with_held)
        without = [step for step in with_held if step[4][0][1] != 0 and step[3][1:] != (0,)]
        self.is_same(list_steps(library, held, callers=Callers(passes=False)), without + changes)
        self.is_same(list_steps(library, held, callers=Callers((("k", "g"),))), changes)
        self.is_same(list_steps(library, held, callers=Callers((), changes=False)), [])
        self.is_same(list_steps(library, held, callers=Callers((("j", "f"), ("k", "f")))), with_held + changes)

    def test_left_out(self):
        f = Method("f", mark("m", "a"), mark("n", "a"), mark("o", "a", named=True))
        steps = list_steps(Library(Kind("k", f), marks=("a",)), ((), ()))
        wanted = [
            ((), ()), ((), (("o", "a"),)), ((), (("n", "a"),)), ((), (("n", "a"), ("o", "a"))), (("a",), ()), (("a",), (("o", "a"),)),
            (("a", "a"), ()), (("a", "a"), (("o", "a"),)),
        ]
        self.is_same(steps, [("call", "k", "f", *both) for both in wanted])

    def test_kinds_in_order_and_methods_by_name(self):
        library = Library(Kind("z", Method("g"), Method("f")), Kind("a", Method("e"), Method("g"), base="z"))
        pairs = [(step[1], step[2]) for step in steps_at(library, ((), ()))]
        self.assertEqual(pairs, [("z", "f"), ("z", "g"), ("a", "e"), ("a", "f"), ("a", "g")])

    def test_puts_and_takes(self):
        f = Method("f", Param("x", default=("once", ())), Param("y", default=("once", ())))
        library = Library(Kind("k", f), marks=("a", "b"))
        world = ((0, 1), (((), "held"), ((), "held")))
        words = [step for step in steps_at(library, world) if step[0] != "call"]
        self.assertEqual(words, [(word, number, name) for word in ("put", "take") for number in (0, 1) for name in ("a", "b")])
        world = ((0, 1), (((), "free"), ((), "held")))
        words = [step for step in steps_at(library, world) if step[0] != "call"]
        self.assertEqual(words, [(word, 0, name) for word in ("put", "take") for name in ("a", "b")])

    def test_all_contents_ascend(self):
        library = Library(Kind("k", Method("f", Param("x"))), marks=("a", "b", "c"))
        given = [step[3][0] for step in steps_at(library, ((), ()))]
        self.assertEqual(given, [(), ("a",), ("a", "b"), ("a", "b", "c"), ("a", "c"), ("b",), ("b", "c"), ("c",)])

    def test_errors_come_with_the_first_step(self):
        steps = steps_at(three_places(), 7)
        self.raises(BadWorld(7), next, steps)

    def test_steps_like_products(self):
        for seed in range(60):
            maker = randoms.Maker(seed, marks=1 + seed % 2, kinds=2)
            library = maker.library()
            world = Worlds.some_world(self, maker, library)
            held = len([hold for _, hold in world[1] if hold == "held"])
            pairs = [(kind, method.name) for kind, method in oracle.pairs_of(library)]
            methods = tuple(pair for pair in pairs if maker.random.random() < 0.7)
            for options in ({}, {"passes": False}, {"changes": False}, {"methods": methods}, {"methods": methods, "passes": False}):
                steps = list_steps(library, world, callers=Callers(**options))
                self.assertEqual(steps, list(oracle.steps_at(library, held, **options)))

    def test_large_libraries_are_not_listed_at_once(self):
        params = [mark("m", "a"), mark("n", "a"), Param("x", default=("once", ())), Param("y", default=("once", ()))]
        kind = Kind.of("k", [Method.of(name, params) for name in "wxyz"])
        library = Library.of([kind] + [Kind(name, base="k") for name in "hij"], marks=tuple("abcdef"))
        steps = steps_at(library, first_world(library))
        self.assertEqual(next(steps), ("call", "k", "w", (), ()))
        self.assertEqual(next(steps), ("call", "k", "w", (), (("y", ()),)))
