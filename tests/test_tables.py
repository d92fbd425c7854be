"""Points 20 and 21, and class Table."""

from oncedefaults.calling import do_step
from oncedefaults.errors import BadHistory, NoKind, NoWorld, TooMany
from oncedefaults.parts import Kind, Library, Method, Param
from oncedefaults.plans import Plan
from oncedefaults.states import new_state, state_in, world_of
from oncedefaults.texts import read_library
from oncedefaults.worlds import MOST_CALLS, MOST_WORLDS, Callers, Table, first_world, report
from tests import oracle, randoms
from tests.bounds import counter, millions
from tests.helpers import OBJECTS, Case, emptying_example, family_example, first_example, mark

EMPTY, A, B, AB = (), ("a",), ("b",), ("a", "b")


def world(contents, hold):
    return ((0,), ((contents, hold),))


FIRST_WORLDS = [world(EMPTY, "free"), world(A, "held"), world(B, "held"), world(EMPTY, "held"), world(AB, "held")]


def put(*args):
    return ("call", "base", "put", args, ())


class Tables(Case):
    def test_first_example(self):
        table = Table(first_example())
        self.is_same(list(table), FIRST_WORLDS)
        self.is_same([table[at] for at in range(5)], FIRST_WORLDS)
        self.assertEqual(len(table), 5)
        self.assertEqual([table.depth(at) for at in range(5)], [0, 1, 1, 2, 2])
        self.assertEqual([table.after(at) for at in range(5)], [[0, 1, 2], [1, 3, 4], [2, 3, 4], [1, 2, 3], [1, 2, 4]])
        self.assertEqual([len(table.history(index=at)) for at in range(5)], [table.depth(index=at) for at in range(5)])
        self.assertEqual(table.history(0), ())
        self.assertEqual(table.after(index=4), [1, 2, 4])
        reports = [(("box", AB if "b" in contents else A), ()) for contents in (EMPTY, A, B, EMPTY, AB)]
        self.is_same(table.reports(put("a")), reports)
        self.is_same(table.reports(call=put("a", ())), [(("own", 0), (A,))] * 5)

    def test_callers(self):
        table = Table(first_example(), callers=Callers(changes=False))
        self.is_same(list(table), [FIRST_WORLDS[at] for at in (0, 1, 2, 4)])
        self.assertEqual([table.after(at) for at in range(4)], [[0, 1, 2], [1, 3], [2, 3], [3]])
        table = Table(first_example(), callers=Callers(()))
        self.is_same(list(table), FIRST_WORLDS[:1])
        self.assertEqual(table.after(0), [])
        self.assertEqual(len(Table(first_example(), callers=None)), 5)
        self.assertEqual(len(Table(library=first_example(), callers=Callers((("no", "such"),)), most=1)), 1)

    def test_no_passing(self):
        library = read_library(
            "marks a\nkind k\nvalue u = {}\nvalue v = {a}\ndef get()\nx = cls.u\nreturn x\ndef set(box x)\ncls.v = x\nreturn none"
        )
        shared = ((0, 0), ((A, "held"),))
        self.assertIn(shared, Table(library))
        self.assertNotIn(shared, Table(library, callers=Callers(passes=False)))
        twice = read_library("marks a\nkind k\nvalue u = {}\nvalue v = {}\ndef set(box x, box y)\ncls.u = x\ncls.v = y\nreturn none")
        self.assertIn(shared, Table(twice, callers=Callers(passes=False)))

    def test_small_tables(self):
        self.is_same(list(Table(Library())), [((), ())])
        self.assertEqual((Table(Library()).after(0), Table(Library())(()), Table(Library()).history(0)), ([], 0, ()))
        table = Table(Library(Kind("k", Method("f"))))
        self.assertEqual((list(table), table.after(0)), ([((), ())], [0]))
        self.is_same(list(Table(emptying_example(), callers=Callers(changes=False))), [world(EMPTY, "free"), world(EMPTY, "held")])

    def test_family_example(self):
        table = Table(family_example())
        seats = [((0, -1), contents) for contents in (EMPTY, A, B, AB)] + [((0, 0), contents) for contents in (A, B, AB)]
        self.assertEqual(sorted(table), sorted((seat, ((contents, "free"),)) for seat, contents in seats))
        self.assertEqual([table.depth(at) for at in range(len(table))], [0, 1, 1, 1, 1, 2, 2])

    def test_items(self):
        table = Table(first_example())
        for thing in [5, 6, -1, -5, "0", True, False, None, (0,), [0], 10 ** 39, *OBJECTS]:
            if thing not in (0, 1, 2) or isinstance(thing, bool):
                for ask in (table.__getitem__, table.depth, table.after, table.history):
                    self.raises(NoWorld(thing), ask, thing)

    def test_worlds_in_tables(self):
        table = Table(first_example())
        for at, one in enumerate(FIRST_WORLDS):
            self.assertIs(one in table, True)
        wrong = [
            world(A, "free"), world(AB, "free"), ((False,), ((EMPTY, "free"),)), [(0,), ((EMPTY, "free"),)], ([0], ((EMPTY, "free"),)),
            ((0,), [(EMPTY, "free")]), ((0,), ([EMPTY, "free"],)), ((0,), (([], "free"),)), 0, *OBJECTS,
        ]
        for thing in wrong:
            if thing != ((0,), (((), "free"),)) or thing[0][0] is False:
                self.assertIs(thing in table, False)
        table = Table(read_library("marks a\nkind k\nvalue u = {}\nvalue v = {}"))
        self.assertIn(((0, 1), ((EMPTY, "free"), (EMPTY, "free"))), table)
        self.assertNotIn(((0, True), ((EMPTY, "free"), (EMPTY, "free"))), table)
        self.assertNotIn(((False, 1), ((EMPTY, "free"), (EMPTY, "free"))), table)

    def test_new_lists(self):
        table = Table(first_example())
        for ask in (lambda: table.after(0), lambda: table.reports(put("a"))):
            before = ask()
            ask().clear()
            self.assertEqual(ask(), before)

    def test_histories(self):
        table = Table(first_example())
        self.assertEqual(table(history=()), 0)
        self.assertEqual(table((put("a"),)), 1)
        self.assertEqual(table((put("a"), put("b"), ("take", 0, "a"))), 2)
        self.assertEqual(table((put("a", ()), ("take", 0, "a"), put("a"), ("put", 1, "b"), put("b", 0))), 4)
        self.assertEqual(table((put("a"),) + (("put", 0, "a"),) * 399), 1)
        self.raises(BadHistory(-1), table, (put("a"),) * 401)
        self.raises(BadHistory(-1), table, (7,) * 401)
        self.raises(BadHistory(-1), table, [put("a")])
        self.raises(BadHistory(0), table, (put("c"), 7))
        self.raises(BadHistory(1), table, (put("a"), ("put", 1, "a")))
        self.raises(BadHistory(2), table, (put("a"), put("b"), list(put("a"))))
        for thing in OBJECTS:
            if not isinstance(thing, tuple):
                self.raises(BadHistory(-1), table, thing)
            elif thing == tuple(range(4000)):
                self.raises(BadHistory(-1), table, thing)
            elif thing != ():
                self.raises(BadHistory(0), table, thing)
            if thing not in (put(), ("put", 0, "a")):
                self.raises(BadHistory(1), table, (put("a"), thing, thing))

    def test_histories_of_allowed_steps(self):
        table = Table(first_example(), callers=Callers(changes=False, passes=False))
        self.assertEqual(table((put("a"), put("b", ()))), 1)
        self.raises(BadHistory(1), table, (put("a"), ("put", 0, "a")))
        self.raises(BadHistory(1), table, (put("a"), put("a", 0)))
        self.raises(BadHistory(0), table, (("take", 0, "a"),))
        table = Table(family_example(), callers=Callers((("heir", "note"),)))
        note = ("call", "heir", "note", ("a",), ())
        self.assertEqual(table((note,)), 1)
        self.raises(BadHistory(1), table, (note, ("call", "base", "note", ("a",), ())))
        both = Library(Kind("k", Method("f", Param("x"), Param("y"))))
        table = Table(both, callers=Callers(passes=False))
        twice = ("call", "k", "f", ((), 0), ())
        self.assertEqual(table((twice,)), 0)
        self.assertEqual(table((twice, ("call", "k", "f", ((), 1), ()))), 0)
        self.raises(BadHistory(1), table, (twice, twice))

    def test_histories_number_boxes_as_their_caller_does(self):
        """The caller also holds boxes that no place has, so its numbers are not those of the world."""
        library = read_library(
            "marks a b\nkind k\nvalue u = {}\nvalue v = {}\nvalue w = {}\ndef mk()\ncls.w |= {a}\nx = {}\nreturn x"
            "\ndef get()\nx = {}\nt = cls.w\nif a in t: x = cls.u\nreturn x"
            "\ndef set(box x)\nz = cls.u\nif x is z: cls.v = x\nif x is z: cls.w |= {b}\nreturn none"
            "\ndef new(box x, *, box y)\nt = cls.w\nz = {b}\nif b in t: z = x\nif x is y: cls.v = z\nreturn none"
        )
        table = Table(library, callers=Callers(changes=False))
        shared = ((0, 0, 1), ((EMPTY, "held"), (AB, "free")))
        fresh = ((0, 1, 2), ((EMPTY, "held"), (EMPTY, "held"), (AB, "free")))
        steps = [("call", "k", "mk", (), ()), ("call", "k", "get", (), ()), ("call", "k", "set", (1,), ())]
        self.assertEqual(table.history(list(table).index(shared)), tuple(steps))
        steps.append(("call", "k", "new", (EMPTY,), (("y", 2),)))
        self.assertEqual(table.history(list(table).index(fresh)), tuple(steps))
        for at, one in enumerate(table):
            history = table.history(at)
            self.assertEqual((table(history), len(history)), (at, table.depth(at)))
            self.assertEqual(oracle.run_behind(library, history).world(), one)

    def test_errors_of_reports(self):
        self.raises(NoKind("no"), Table(first_example()).reports, ("call", "no", "put", (), ()))


def kinds_with(methods):
    """Kinds with up to four of the methods each."""
    names = "wxyz"
    return [Kind.of(names[at // 4], methods[at:at + 4]) for at in range(0, len(methods), 4)]


class Bounds(Case):
    def test_numbers(self):
        self.assertEqual((MOST_CALLS, MOST_WORLDS), (60, 60))

    def bounded(self, library, calls):
        """Whether there are at most 60 calls; how many there are is told by listing them."""
        self.assertEqual(len(list(oracle.calls_at(library, 0))), calls)
        nobody = Callers((), changes=False)
        if calls <= 60:
            self.assertEqual(len(Table(library, callers=nobody)), 1)
        else:
            self.raises(TooMany("calls"), Table, library, callers=nobody)

    def test_calls_at_the_bound(self):
        marks = [mark("p"), mark("q"), mark("r", "a")]
        boxes = [Param("x"), Param("y")]
        optional = [Param("x", default=("once", ())), Param("y", default=("anew", ()), named=True)]
        one = Method("one")
        for methods, alphabet, calls in (
            ([Method("f", *marks, Param("x", named=True)), Method("g", *marks)], ("a", "b"), 60),
            ([Method("f" + letter, *boxes) for letter in "abcdefghij"], ("a",), 60),
            ([Method("f" + letter, *optional) for letter in "abcde"] + [Method("g" + letter) for letter in "abcde"], ("a",), 60),
            ([Method("f", Param("x")), one], tuple("abcdef"), 65),
            ([Method("f", *boxes), Method("g", *boxes), Method("h", *boxes)], ("a", "b"), 60),
        ):
            self.bounded(Library(*kinds_with(methods), marks=alphabet), calls)
            self.bounded(Library(*kinds_with(methods), Kind("last", one), marks=alphabet), calls + 1)

    def test_calls_of_random_libraries(self):
        for seed in range(400):
            library = randoms.library(seed, marks=1 + seed % 2, kinds=1 + seed % 3)
            self.bounded(library, len(list(oracle.calls_at(library, 0))))

    def test_all_calls_count_whatever_is_allowed(self):
        library = Library(Kind("k", Method("f", Param("x"))), marks=tuple("abcdef"))
        self.raises(TooMany("calls"), Table, library)
        self.raises(TooMany("calls"), Table, library, callers=Callers(()), most=1)
        self.raises(TooMany("calls"), Table, library, callers=Callers((("k", "g"),), changes=False))

    def test_millions_of_calls(self):
        library = millions()
        self.raises(TooMany("calls"), Table, library)
        self.raises(TooMany("calls"), Table, library, callers=Callers(()))

    def test_worlds(self):
        self.assertEqual(len(Table(first_example(), most=5)), 5)
        for most in (1, 2, 3, 4):
            self.raises(TooMany("worlds"), Table, first_example(), most=most)
        self.assertEqual(len(Table(first_example(), callers=Callers(()), most=1)), 1)

    def test_worlds_at_the_bound(self):
        for stop in (0, 1, 31, 58, 59):
            table = Table(counter(stop))
            self.assertEqual([table.depth(at) for at in range(len(table))], list(range(stop + 1)))
            self.assertEqual(len(Table(counter(stop), most=stop + 1)), stop + 1)
            if stop > 0:
                self.raises(TooMany("worlds"), Table, counter(stop), most=stop)
        for stop in (60, 63):
            self.raises(TooMany("worlds"), Table, counter(stop))

    def test_many_held_boxes(self):
        """There are more worlds than can be listed."""
        values = "\n".join(f"value {name} = {{}}" for name in "uvw")
        text = f"marks a\nkind k\n{values}\ndef get()\nx = cls.u\nreturn x\ndef set(box x, box y)\ncls.v = x\ncls.w = y\nreturn x"
        library = read_library(text + "\nkind j(k)\nkind i(j)\nkind h(i)")
        self.raises(TooMany("worlds"), Table, library)


class LikePython(Case):
    """Tables of random libraries against breadth first over real histories of real classes."""

    def small(self, count):
        """Random libraries with few plain calls, some of them with many worlds."""
        seed = found = 0
        while found < count:
            library = randoms.library(seed, marks=1, kinds=1 + seed % 3)
            seed += 1
            if 0 < len(list(oracle.calls_at(library, 0))) <= 14:
                found += 1
                yield seed, library

    def options(self, seed, library):
        pairs = [(kind, method.name) for kind, method in oracle.pairs_of(library)]
        return [{}, {"changes": False}, {"passes": False}, {"methods": tuple(pairs[::2])}][seed % 4]

    def test_tables(self):
        for seed, library in self.small(120):
            options = self.options(seed, library)
            wanted = oracle.table(library, 12, **options)
            if wanted is None:
                self.raises(TooMany("worlds"), Table, library, callers=Callers(**options), most=12)
                continue
            order, found, after = wanted
            table = Table(library, callers=Callers(**options), most=12)
            self.assertEqual(list(table), order)
            for at, one in enumerate(order):
                self.assertIn(one, table)
                self.assertEqual(table.depth(at), len(found[one]))
                self.assertEqual(table(found[one]), at)
                self.assertTrue({table[index] for index in table.after(at)} <= after[one])
                self.same_history(library, table, at, options)
            for call in list(oracle.calls_at(library, 0))[:5]:
                self.assertEqual(table.reports(call), [report(library, call, world=one) for one in table])

    def same_history(self, library, table, at, options):
        history = table.history(at)
        self.assertEqual(len(history), table.depth(at))
        run = oracle.PythonRun(library)
        for step in history:
            self.assertTrue(Callers(**options).allows(step, len(run.held)))
            run.step(step)
        self.assertEqual(run.world(), table[at])
        self.assertEqual(table(history), at)

    def test_after(self):
        """The worlds behind all steps at a world, and behind all steps of a real run that has it."""
        for _, library in self.small(60):
            try:
                table = Table(library, most=12)
            except TooMany:
                continue
            for at, one in enumerate(table):
                after = [table[index] for index in table.after(at)]
                self.assertEqual(table.after(at), sorted(set(table.after(at))))
                held = len([hold for _, hold in one[1] if hold == "held"])
                steps = list(oracle.steps_at(library, held))
                self.assertEqual(set(after), {self.behind(library, one, step) for step in steps})
                run = oracle.run_behind(library, table.history(at))
                histories = [table.history(at) + (step,) for step in oracle.steps_at(library, len(run.held))]
                reached = {oracle.run_behind(library, history).world() for history in histories}
                self.assertEqual(reached | {one}, {*after, one})

    def behind(self, library, one, step):
        state = state_in(Plan(library), one)
        do_step(state, step)
        return world_of(state)

    def test_random_histories_stay_in_the_table(self):
        for seed, library in self.small(80):
            maker = randoms.Maker(seed)
            try:
                table = Table(library)
            except TooMany:
                continue
            self.assertEqual(table[0], first_world(library))
            state, history = new_state(Plan(library)), ()
            for _ in range(10):
                step = maker.random.choice(list(oracle.steps_at(library, len(state.held))))
                do_step(state, step)
                before = table(history)
                history += (step,)
                self.assertEqual(table[table(history)], world_of(state))
                self.assertIn(table(history), table.after(before) + [before])
