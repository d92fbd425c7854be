"""Points 22 to 24: notice, is_notice, heard, stirring."""

import random

from oncedefaults.errors import (
    BadArgument, BadStep, GivenTwice, Missing, NoKind, NoMethod, NoOption, TooMany, TooManyArguments,
)
from oncedefaults.noticing import heard, is_notice, notice, stirring
from oncedefaults.parts import Kind, Library, Method
from oncedefaults.runs import Run, calls_of
from oncedefaults.texts import read_library
from oncedefaults.worlds import Callers, Table, first_world
from tests import bounds, oracle, slow
from tests.bending import bent, some_bent, stretched
from tests.helpers import OBJECTS, Case, emptying_example, family_example, first_example
from tests.libraries import some_libraries
from tests.test_steps import NO_STEPS

EMPTY, A, B, AB = (), ("a",), ("b",), ("a", "b")
NOBODY = Callers((), changes=False, passes=False)


def put(*args, **options):
    return ("call", "base", "put", args, tuple(options.items()))


def world(contents, hold):
    return ((0,), ((contents, hold),))


# By one step nothing is noticed here, as both methods must have been called.
BOTH = read_library(
    "marks a b\nkind k\nvalue v = {}\ndef f()\nk.v |= {a}\nreturn none\ndef g()\nx = k.v\nif a in x: k.v |= {b}\nreturn none"
    "\ndef ask()\nx = k.v\nreturn b in x"
)
ASK = ("call", "k", "ask", (), ())

# What the caller holds is changed by a call to which it was not passed.
STIRRER = read_library(
    "marks a b\nkind k\nvalue v = {}\ndef get()\nx = k.v\nreturn x\ndef add(mark m)\nk.v |= {m}\nreturn none"
    "\ndef keep(box x)\nk.v = x\nreturn none\ndef fill(box x)\nx |= {a}\nreturn none"
)


class Papers(Case):
    def test_first_example(self):
        self.is_same(notice(first_example(), put("a")), ("after", (put("b"),)))
        self.is_same(notice(library=first_example(), call=put("b"), callers=None, most=60), ("after", (put("a"),)))
        worlds = tuple(Table(first_example()))
        self.is_same(notice(first_example(), put("a", ())), ("never", worlds))
        self.is_same(notice(first_example(), put("a", into=A)), ("never", worlds))
        self.is_same(notice(first_example(), put("a", ()), callers=NOBODY), ("never", worlds[:1]))

    def test_emptying_example(self):
        for call in calls_of(emptying_example()):
            self.is_same(notice(emptying_example(), call), ("never", tuple(Table(emptying_example()))))

    def test_family_example(self):
        for call in calls_of(family_example()):
            word, history = notice(family_example(), call)
            self.assertEqual((word, len(history)), ("after", 1))
            self.assertNotEqual(Run.behind(family_example(), history).report(call), Run(family_example()).report(call))

    def test_longer_histories(self):
        steps = (("call", "k", "f", (), ()), ("call", "k", "g", (), ()))
        self.is_same(notice(BOTH, ASK), ("after", steps))
        self.is_same(notice(BOTH, ASK, callers=Callers((("k", "f"), ("k", "g")))), ("after", steps))
        for name in "fg":
            self.assertEqual(notice(BOTH, ASK, callers=Callers((("k", name),)))[0], "never")

    def test_callers(self):
        library = read_library("marks a\nkind k\nvalue v = {}\ndef get()\nx = k.v\nreturn x\ndef ask()\nx = k.v\nreturn a in x")
        get, ask = ("call", "k", "get", (), ()), ("call", "k", "ask", (), ())
        self.is_same(notice(library, ask), ("after", (get, ("put", 0, "a"))))
        worlds = (world(EMPTY, "free"), world(EMPTY, "held"))
        self.is_same(notice(library, ask, callers=Callers(changes=False)), ("never", worlds))
        self.is_same(notice(library, ask, callers=Callers((("k", "ask"),))), ("never", worlds[:1]))
        library = read_library(
            "marks a\nkind k\nvalue v = {}\ndef get()\nx = k.v\nreturn x\ndef fill(box x)\nx |= {a}\nreturn none\ndef ask()\nx = k.v\nreturn a in x"
        )
        fill = ("call", "k", "fill", (0,), ())
        self.is_same(notice(library, ask, callers=Callers(changes=False)), ("after", (get, fill)))
        self.assertEqual(notice(library, ask, callers=Callers(changes=False, passes=False))[0], "never")
        self.assertEqual(is_notice(library, ask, ("after", (get, fill))), True)
        self.assertEqual(is_notice(library, ask, ("after", (get, fill)), callers=Callers(passes=False)), False)
        self.assertEqual(is_notice(library, ask, ("after", (get, ("put", 0, "a"))), callers=Callers(passes=False)), True)
        self.assertEqual(is_notice(library, ask, ("after", (get, ("put", 0, "a"))), callers=Callers(changes=False)), False)
        self.assertEqual(is_notice(library, ask, ("after", (get, fill)), callers=Callers((("k", "fill"),))), False)

    def test_right_papers_of_others(self):
        call = put("a", ())
        worlds = tuple(Table(first_example()))
        more = worlds + (world(A, "free"), world(B, "free"), world(AB, "free"))
        for right in (worlds, worlds[::-1], worlds + worlds, more, more[::-1] + worlds[1:3]):
            self.assertIs(is_notice(first_example(), call, ("never", right)), True)
        for at in range(5):
            self.assertIs(is_notice(first_example(), call, ("never", worlds[:at] + worlds[at + 1:])), False)
            self.assertIs(is_notice(first_example(), call, ("never", more[:at] + more[at + 1:])), False)
        for history in ((put("b"), put("b")), (put("a"), ("put", 0, "b")), (put("b"),) * 400, (put("a"), put("a", 0), put("b", m="b")[:4] + ((),))):
            self.assertIs(is_notice(first_example(), put("a"), ("after", history)), True)
        self.assertIs(is_notice(first_example(), put("a"), ("after", (put("b"),) * 401)), False)
        for history in ((), (put("a"),), (put("b"), ("take", 0, "b"), ("put", 0, "a")), (put("b"), put("c")), (put("b"), ("put", 1, "a"))):
            self.assertIs(is_notice(first_example(), put("a"), ("after", history)), False)
        self.assertIs(is_notice(first_example(), put("a"), ("never", worlds)), False)
        self.assertIs(is_notice(first_example(), put("a"), ("never", worlds[:1]), callers=NOBODY), True)
        self.assertIs(is_notice(first_example(), put("a"), ("never", ()), callers=NOBODY), False)
        self.assertIs(is_notice(first_example(), put("a", ()), ("never", worlds[1:]), callers=Callers(())), False)
        self.assertIs(is_notice(library=first_example(), call=call, thing=("never", worlds), callers=None), True)

    def test_worlds_beyond_the_table_need_what_is_behind_them(self):
        library = read_library("marks a\nkind k\nvalue v = {}\ndef f()\nreturn none")
        call = ("call", "k", "f", (), ())
        free, full = world(EMPTY, "free"), world(A, "free")
        held = (world(EMPTY, "held"), world(A, "held"))
        for worlds, right in (
            ((free,), True), ((free, full), True), ((full,), False), ((free, *held), True), ((free, held[0]), False), ((free, held[1]), False),
        ):
            self.assertIs(is_notice(library, call, ("never", worlds)), right)
            self.assertEqual(slow.is_notice(library, call, ("never", worlds)), right)
        self.assertIs(is_notice(library, call, ("never", (free, held[0])), callers=Callers(changes=False)), True)

    def test_any_object(self):
        for library, call in ((first_example(), put("a")), (first_example(), put("a", ())), (Library(Kind("k", Method("f"))), ("call", "k", "f", (), ()))):
            for thing in OBJECTS:
                self.assertIs(is_notice(library, call, thing), False)
                for word in ("after", "never"):
                    self.assertIs(is_notice(library, call, (word, thing)), False)
                    self.assertIs(is_notice(library, call, (word, (thing,))), slow.is_notice(library, call, (word, (thing,))))
                    self.assertIs(is_notice(library, call, (thing, ())), False)

    def test_all_bent_papers(self):
        callers = Callers(changes=False)
        library = read_library("marks a\nkind k\nvalue v = {a}\ndef f(box x=once {})\ncls.v = x\nreturn x\ndef g()\nx = cls.v\nreturn a in x")
        for name in "fg":
            call = ("call", "k", name, (), ())
            paper = notice(library, call, callers=callers)
            self.assertIs(is_notice(library, call, paper, callers=callers), True)
            right = 0
            for thing in bent(paper):
                wanted = slow.is_notice(library, call, thing, callers)
                right += wanted
                self.assertIs(is_notice(library, call, thing, callers=callers), wanted, thing)
            self.assertGreater(right, 0)


class Errors(Case):
    def questions(self):
        """Both questions about a call, where any object may be the thing."""
        return [notice, lambda library, call, **options: is_notice(library, call, None, **options)]

    def test_errors_of_calls_come_first(self):
        many = bounds.millions()
        for ask in self.questions():
            for thing in [*NO_STEPS, ("put", 0, "a"), ("take", 0, "a"), *[thing for thing in OBJECTS if thing != ("call", "base", "put", (), ())]]:
                self.raises(BadStep(thing), ask, first_example(), thing)
                self.raises(BadStep(thing), ask, many, thing)
            self.raises(NoKind("no"), ask, first_example(), ("call", "no", "put", (), ()))
            self.raises(NoMethod("no"), ask, first_example(), ("call", "base", "no", (), ()))
            self.raises(TooManyArguments(3), ask, first_example(), put("a", (), ()))
            self.raises(NoOption("no"), ask, first_example(), put(no="a"))
            self.raises(GivenTwice("m"), ask, first_example(), put("a", m="a"))
            self.raises(Missing("m"), ask, first_example(), put())
            self.raises(BadArgument("m"), ask, first_example(), put(True))
            self.raises(BadArgument("into"), ask, first_example(), put("a", 0))
            self.raises(Missing("m"), ask, first_example(), ("call", "base", "put", (), ()))
            self.raises(NoKind("no"), ask, many, ("call", "no", "put", (), ()), callers=NOBODY)
            self.raises(TooMany("calls"), ask, many, ("call", "k", "w", (), ()), callers=NOBODY)

    def test_calls_at_the_bound(self):
        library, more = read_library(bounds.SIXTY_CALLS), read_library(bounds.SIXTY_CALLS + bounds.ONE_MORE)
        call = ("call", "k", "f", ("a", "a"), ())
        self.assertEqual((len(list(calls_of(library))), len(list(calls_of(more)))), (60, 61))
        paper = notice(library, call)
        self.is_same((paper[0], len(paper[1]), is_notice(library, call, paper)), ("after", 1, True))
        for ask in (notice, lambda *args: is_notice(*args, paper)):
            self.raises(TooMany("calls"), ask, more, call)
        for ask in (heard, stirring):
            self.assertIsInstance(ask(library), list)
            self.raises(TooMany("calls"), ask, more)
            self.raises(TooMany("calls"), ask, more, callers=NOBODY)
            self.raises(TooMany("calls"), ask, bounds.millions())

    def test_worlds_at_the_bound(self):
        call = ("call", "k", "pa", (), ())
        for stop in (0, 30, 58, 59):
            library = bounds.counter(stop)
            self.assertEqual(len(notice(library, call)[1]), stop + 1)
            self.assertEqual(len(notice(library, call, most=stop + 1)[1]), stop + 1)
            if stop > 0:
                self.raises(TooMany("worlds"), notice, library, call, most=stop)
            self.assertEqual((heard(library), stirring(library)), ([], []))
        for stop in (60, 63):
            library = bounds.counter(stop)
            self.raises(TooMany("worlds"), notice, library, call)
            self.raises(TooMany("worlds"), heard, library)
            self.raises(TooMany("worlds"), stirring, library)
            self.assertEqual(notice(library, call, callers=NOBODY)[1], (first_world(library),))
            self.assertEqual((heard(library, callers=NOBODY), stirring(library, callers=NOBODY)), ([], []))

    def test_a_short_history_does_not_lift_the_bound(self):
        ask = ["def ask()", "x = k.v", "return a in x"]
        call = ("call", "j", "ask", (), ())
        self.is_same(notice(bounds.counter(59, *ask), call), ("after", (("call", "k", "pa", (), ()),)))
        self.raises(TooMany("worlds"), notice, bounds.counter(60, *ask), call)
        for most in (1, 2, 3, 59):
            self.raises(TooMany("worlds"), notice, bounds.counter(59, *ask), call, most=most)
        self.raises(TooMany("worlds"), heard, bounds.counter(60, *ask))

    def test_papers_have_no_bound_of_worlds(self):
        library = bounds.counter(63, "def ask()", "x = k.v", "return a in x")
        call = ("call", "j", "ask", (), ())
        self.assertIs(is_notice(library, call, ("after", (("call", "k", "pa", (), ()),))), True)
        library, call = bounds.counter(63), ("call", "k", "pa", (), ())
        contents = sorted(oracle.contents_of("abcdef"))
        worlds = tuple(((0, 1), ((one, "free"), (tuple("abcdef"), "free"))) for one in contents)
        self.assertEqual(len(worlds), 64)
        self.assertIs(is_notice(library, call, ("never", worlds)), True)
        self.assertIs(is_notice(library, call, ("never", worlds[:-1])), False)

    def test_long_ways(self):
        """Sixty worlds, the last of which is noticed: its history has 59 steps."""
        last = ["def ask()", "x = k.v", "y = k.w", "return x == y"]
        library = bounds.counter(59, *last)
        call = ("call", "j", "ask", (), ())
        word, history = notice(library, call)
        self.assertEqual((word, len(history)), ("after", 59))
        self.assertIs(is_notice(library, call, (word, history)), True)
        self.assertIs(is_notice(library, call, (word, history[:-1])), False)
        sources = heard(library)
        self.assertEqual([(source, target, len(steps), one) for source, target, steps, one in sources],
                         [(("call", "k", "pa"), ("j", "ask"), 59, call)])


class Heard(Case):
    def test_first_example(self):
        found = heard(first_example())
        self.assertEqual([(source, target, len(history)) for source, target, history, _ in found],
                         [(("call", "base", "put"), ("base", "put"), 1), (("change", "", ""), ("base", "put"), 2)])
        for source, target, history, call in found:
            self.assertTrue(slow.is_heard(first_example(), source, target, history, call, None))
        self.assertEqual(len(heard(library=first_example(), callers=Callers(changes=False))), 1)

    def test_targets_need_not_be_allowed(self):
        only = Callers((("k", "f"), ("k", "g")))
        self.is_same(heard(BOTH, callers=only), [(("call", "k", "g"), ("k", "ask"), notice(BOTH, ASK)[1], ASK)])
        self.assertEqual(heard(BOTH, callers=Callers((("k", "ask"), ("k", "g")))), [])
        self.assertEqual(heard(BOTH, callers=NOBODY), [])
        self.assertEqual(heard(Library()), [])

    def test_what_is_taken_back_is_heard_too(self):
        library = read_library(
            "marks a\nkind k\nvalue v = {}\ndef add()\nk.v |= {a}\nreturn none\ndef drop()\nk.v -= {a}\nreturn none\ndef ask()\nx = k.v\nreturn a in x"
        )
        add, drop, ask = [("call", "k", name, (), ()) for name in ("add", "drop", "ask")]
        self.is_same(heard(library), [(add[:3], ("k", "ask"), (add,), ask), (drop[:3], ("k", "ask"), (add, drop), ask)])

    def test_order(self):
        found = heard(family_example())
        kinds = ("base", "heir")
        self.assertEqual([part[:2] for part in found], [(("call", one, "note"), (other, "note")) for one in kinds for other in kinds])

    def test_new_lists(self):
        heard(first_example()).clear()
        stirring(first_example()).clear()
        self.assertEqual((len(heard(first_example())), len(stirring(first_example()))), (2, 1))


class Stirring(Case):
    def test_first_example(self):
        (kind, name, history), = stirring(first_example())
        self.assertEqual((kind, name, len(history)), ("base", "put", 2))
        self.assertTrue(slow.is_stirring(first_example(), history))
        self.assertEqual(len(stirring(library=first_example(), callers=Callers(changes=False, passes=False))), 1)

    def test_passed_boxes_do_not_count(self):
        self.assertEqual([part[:2] for part in stirring(STIRRER)], [("k", "add")])
        for _, _, history in stirring(STIRRER):
            self.assertEqual(len(history), 2)
            self.assertTrue(slow.is_stirring(STIRRER, history))
        both = read_library("marks a\nkind k\nvalue v = {}\ndef get()\nx = k.v\nreturn x\ndef fill(box x, box y)\nx |= {a}\nk.v |= {a}\nreturn none")
        self.assertEqual([part[:2] for part in stirring(both)], [("k", "fill")])
        self.assertEqual(stirring(both, callers=Callers((("k", "fill"),))), [])

    def test_callers(self):
        self.assertEqual(stirring(STIRRER, callers=Callers((("k", "get"), ("k", "fill")))), [])
        self.assertEqual(stirring(STIRRER, callers=Callers((("k", "add"),))), [])
        self.assertEqual(len(stirring(STIRRER, callers=Callers((("k", "add"), ("k", "keep")), changes=False, passes=False))), 1)
        self.assertEqual(stirring(emptying_example(), callers=Callers(changes=False)), [])
        self.assertEqual([part[:2] for part in stirring(emptying_example())], [("base", "get")])
        self.assertEqual((stirring(Library()), stirring(family_example())), ([], []))

    def test_taking_back_only(self):
        library = read_library("marks a\nkind k\nvalue v = {a}\ndef drop()\nk.v -= {a}\nreturn none\ndef get()\nx = k.v\nreturn x")
        steps = (("call", "k", "get", (), ()), ("call", "k", "drop", (), ()))
        self.is_same(stirring(library), [("k", "drop", steps)])


class LikePython(Case):
    """Random libraries and callers: answers against a slow search by real classes."""

    def test_notice(self):
        told = {"after": 0, "never": 0}
        for seed, library, callers, table in some_libraries(150):
            order, histories, _ = table
            for call in list(calls_of(library))[:6]:
                paper = notice(library, call, callers=callers, most=len(order))
                if len(order) > 1:
                    self.raises(TooMany("worlds"), notice, library, call, callers=callers, most=len(order) - 1)
                new = slow.report(library, order[0], call)
                noticed = [one for one in order if slow.report(library, one, call) != new]
                if noticed:
                    self.assertEqual((paper[0], len(paper[1])), ("after", len(histories[noticed[0]])))
                else:
                    self.is_same(paper, ("never", tuple(order)))
                self.assertIs(slow.is_notice(library, call, paper, callers), True)
                self.assertIs(is_notice(library, call, paper, callers=callers), True)
                told[paper[0]] += 1
        self.assertGreater(min(told.values()), 30)

    def test_bent_papers(self):
        told = {True: 0, False: 0}
        for seed, library, callers, table in some_libraries(60):
            choose = random.Random(seed)
            call = choose.choice(list(calls_of(library)))
            paper = notice(library, call, callers=callers)
            things = list(some_bent(choose, paper, 12)) + [("never", tuple(table[0])), ("never", tuple(table[0][:-1]))]
            things += [("after", table[1][world]) for world in table[0]] + [("never", self.more(choose, library, callers, table[0]))]
            for thing in things:
                wanted = slow.is_notice(library, call, thing, callers)
                self.assertIs(is_notice(library, call, thing, callers=callers), wanted, (seed, thing))
                told[wanted] += 1
        self.assertGreater(min(told.values()), 60)

    def more(self, choose, library, callers, worlds):
        return stretched(choose, worlds, lambda one: slow.worlds_away(library, one, callers))

    def test_heard_and_stirring(self):
        many = [0, 0]
        for seed, library, callers, table in some_libraries(120):
            found = heard(library, callers=callers)
            wanted = slow.heard(library, table, callers)
            self.assertEqual([part[:2] for part in found], sorted(wanted), seed)
            for source, target, history, call in found:
                self.assertEqual(len(history), wanted[(source, target)])
                self.assertTrue(slow.is_heard(library, source, target, history, call, callers))
            stirred = stirring(library, callers=callers)
            wanted = slow.stirring(library, table, callers)
            self.assertEqual([part[:2] for part in stirred], sorted(wanted), seed)
            for kind, name, history in stirred:
                self.assertEqual((len(history), history[-1][1:3]), (wanted[(kind, name)], (kind, name)))
                self.assertIsNotNone(slow.history_done(library, history, callers))
                self.assertTrue(slow.is_stirring(library, history))
            many = [many[0] + len(found), many[1] + len(stirred)]
        self.assertGreater(min(many), 20)

    def test_calls_notice_what_they_hear(self):
        """A call notices some history exactly if it changes its report at some step of a history."""
        for seed, library, callers, _ in some_libraries(80):
            targets = {target for _, target, _, _ in heard(library, callers=callers)}
            noticing = {call[1:3] for call in calls_of(library) if notice(library, call, callers=callers)[0] == "after"}
            self.assertEqual(targets, noticing)
