"""Point 29: newcomers, is_newcomers."""

import random

from oncedefaults.errors import TooMany
from oncedefaults.joints import alike, is_newcomers, newcomers
from oncedefaults.noticing import notice
from oncedefaults.parts import Kind, Library, Method
from oncedefaults.runs import calls_of
from oncedefaults.texts import read_library, show_library
from oncedefaults.worlds import Callers, Table
from tests import bounds, slow
from tests.bending import bent, some_bent, stretched
from tests.helpers import OBJECTS, Case, emptying_example, family_example, first_example
from tests.libraries import some_libraries
from tests.test_noticing import NOBODY, put

EMPTY, A, B, AB = (), ("a",), ("b",), ("a", "b")


def one_method(name, *args):
    return ("call", "k", name, args, ())


# Each call alone reports an empty box; but the class value and the default share a box only as long as nobody splits them.
SPLIT = read_library(
    "marks a\nkind k\nvalue v = {}\ndef split()\nx = {}\nk.v = x\nreturn none\ndef get()\nk.v -= {a}\nx = k.v\nreturn x"
    "\ndef give(box x=early k.v)\nx -= {a}\nreturn x"
)


class Papers(Case):
    def test_first_example(self):
        self.is_same(newcomers(first_example()), ("found", (put("a"),), (put("b"),)))
        self.is_same(newcomers(library=first_example(), callers=None, most=60, joints=120), ("found", (put("a"),), (put("b"),)))
        self.assertIs(is_newcomers(library=first_example(), thing=("found", (put("b"),), (put("a"),)), callers=None), True)
        self.is_same(newcomers(first_example(), callers=NOBODY), ("blind", (((0, 1), ((EMPTY, "free"), (EMPTY, "free"))),)))
        self.is_same(newcomers(Library()), ("blind", (((), ()),)))

    def test_emptying_example(self):
        later = [((0, 1), ((EMPTY, "free"), (contents, "free"))) for contents in (EMPTY, A, AB, B)]
        held = [((0, 0), ((contents, "held"),)) for contents in (EMPTY, A, AB, B)]
        self.is_same(newcomers(emptying_example()), ("blind", tuple(held + later)))
        self.is_same(newcomers(emptying_example(), callers=Callers(changes=False)), ("blind", (held[0], later[0])))

    def test_family_example(self):
        word, history, later = newcomers(family_example())
        self.assertEqual((word, len(history), len(later)), ("found", 1, 1))

    def test_versions_that_are_not_alike(self):
        version = emptying_example().version(emptying_example().defaults())
        self.assertEqual((newcomers(version)[0], alike(version, emptying_example())), ("blind", False))

    def test_a_newcomer_who_finds_out_though_no_call_notices_anything(self):
        for call in calls_of(SPLIT):
            self.assertEqual(notice(SPLIT, call)[0], "never")
        word, history, later = newcomers(SPLIT)
        self.is_same((word, history), ("found", (one_method("split"),)))
        self.assertEqual(sorted(later), [one_method("get"), one_method("give")])
        self.assertIs(is_newcomers(SPLIT, (word, history, later)), True)
        self.assertIs(is_newcomers(SPLIT, (word, history, later[::-1])), True)
        self.assertIs(is_newcomers(SPLIT, (word, history, later[:1] * 2)), False)
        self.assertEqual(newcomers(SPLIT, callers=Callers((("k", "get"), ("k", "give"))))[0], "blind")
        self.assertEqual(newcomers(SPLIT, callers=Callers((("k", "split"), ("k", "give"))))[0], "blind")
        self.assertEqual(newcomers(SPLIT.version(SPLIT.defaults()))[0], "blind")

    def test_both_histories_together_are_short(self):
        """Ways with less steps of the one kind, or with less of the other kind, are longer in all."""
        more = "\nkind j\nvalue w = {}\ndef go()\nx = j.w\nif b in x: j.w |= {c}\nif a in x: j.w |= {b}\nj.w |= {a}\nreturn none"
        more += "\ndef ask()\nx = j.w\nreturn c in x"
        library = read_library(show_library(SPLIT).replace("marks a", "marks a b c").replace("-= {a}", "-= {a b c}") + more)
        go, ask = ("call", "j", "go", (), ()), ("call", "j", "ask", (), ())
        for many in (1, 2, 3):
            self.assertIs(is_newcomers(library, ("found", (go,) * many, (go,) * (3 - many) + (ask,)), callers=Callers(changes=False)), True)
        word, history, later = newcomers(library, callers=Callers(changes=False))
        self.is_same((word, history, len(later)), ("found", (one_method("split"),), 2))
        library = read_library(
            "marks a\nkind k\nvalue v = {}\nvalue w = k.v\ndef split()\nx = {}\nk.w = x\nreturn none\ndef get()\nk.v -= {a}\nx = k.v\nreturn x"
            "\ndef ask()\nx = k.w\ny = copy x\nk.w -= {a}\nreturn a in y"
        )
        get, ask, split = one_method("get"), one_method("ask"), one_method("split")
        self.is_same(newcomers(library), ("found", (get, ("put", 0, "a")), (ask,)))
        self.assertIs(is_newcomers(library, ("found", (split,), (get, ("put", 0, "a"), ask))), True)

    def test_right_papers_of_others(self):
        library = first_example()
        for history, later in (
            ((put("a"),), (put("b"),)), ((put("a"), put("a")), (put("b", ()), put("b"))), ((put("a"), ("put", 0, "b")), (put("a"),)),
            ((put("b"),) * 400, (put("b", ()),) * 399 + (put("a"),)), ((put("a"), ("take", 0, "a"), ("put", 0, "b")), (put("a"),)),
            ((put("b", ()), put("b", 0), put("b")), (put("a", ()), put("a", 0), ("put", 0, "b"), put("a"))),
        ):
            self.assertIs(is_newcomers(library, ("found", history, later)), True)
            self.assertIs(is_newcomers(library, ("found", list(history), later)), False)
            self.assertIs(is_newcomers(library, ("found", history, list(later))), False)
            self.assertIs(is_newcomers(library, ["found", history, later]), False)
            self.assertIs(is_newcomers(library, ("found", later, ())), False)
            self.assertIs(is_newcomers(library, ("found", (), later)), False)
            self.assertIs(is_newcomers(library, ("blind", history, later)), False)
            self.assertIs(is_newcomers(library, ("found", history)), False)
        for history, later in (
            ((put("a"),), (put("a"),)), ((put("a"),), (put("b"), put("b"))), ((put("a"),), (("put", 0, "b"), put("b"))), ((put("a"),), (put("b", 0),)),
            ((put("b"),) * 401, (put("a"),)), ((put("b"),), (put("b", ()),) * 400 + (put("a"),)), ((put("a"), ("take", 0, "a")), (put("b"),)),
        ):
            self.assertIs(is_newcomers(library, ("found", history, later)), False)
        self.assertIs(is_newcomers(library, ("found", (put("a"), ("put", 0, "b")), (put("a"),)), callers=Callers(changes=False)), False)
        self.assertIs(is_newcomers(library, ("found", (put("b"),), (put("a", ()), put("a", 0), put("a"))), callers=Callers(passes=False)), False)
        self.assertIs(is_newcomers(library, ("found", (put("b"),), (put("a", ()), put("a"))), callers=Callers(passes=False)), True)

    def test_right_joint_worlds_of_others(self):
        library = emptying_example()
        joints = newcomers(library)[1]
        more = joints + (((0, 1), ((B, "free"), (EMPTY, "free"))), ((0, 1), ((B, "free"), (B, "free"))))
        for right in (joints, joints[::-1], joints * 2, more, more[::-1] + joints[3:5]):
            self.assertIs(is_newcomers(library, ("blind", right)), True)
        for at in range(len(joints)):
            self.assertIs(is_newcomers(library, ("blind", joints[:at] + joints[at + 1:])), False)
            self.assertIs(is_newcomers(library, ("blind", more[:at] + more[at + 1:])), False)
        for other in (((0, 1), ((A, "held"), (A, "free"))), ((0, 1), ((A, "held"), (A, "held"))), ((0,), ((A, "held"),)), ((0, 0), ((A, "free"),)), []):
            self.assertIs(is_newcomers(library, ("blind", joints + (other,))), False)
        self.assertIs(is_newcomers(library, ("blind", joints[-4:]), callers=NOBODY), True)
        self.assertIs(is_newcomers(library, ("blind", (joints[0], joints[4])), callers=Callers(changes=False)), True)
        self.assertIs(is_newcomers(library, ("blind", (joints[4],)), callers=Callers(changes=False)), False)

    def test_any_object(self):
        for library in (first_example(), emptying_example(), Library(Kind("k", Method("f")))):
            for thing in OBJECTS:
                for paper in (thing, ("found", thing), ("blind", thing), ("found", (), thing), ("found", thing, ()), ("found", (thing,), (thing,)),
                              ("blind", (thing,)), (thing, ()), (thing, (), ())):
                    self.assertIs(is_newcomers(library, paper), slow.is_newcomers(library, paper, list(Table(library))))

    def test_all_bent_papers(self):
        callers = Callers(changes=False)
        for library in (first_example(), emptying_example()):
            paper = newcomers(library, callers=callers)
            worlds, told = list(Table(library, callers=callers)), 0
            for thing in bent(paper):
                wanted = slow.is_newcomers(library, thing, worlds, callers)
                told += wanted
                self.assertIs(is_newcomers(library, thing, callers=callers), wanted, thing)
            self.assertGreater(told, 0)

    def test_callers(self):
        library = read_library("marks a\nkind k\nvalue v = {}\ndef get()\nx = k.v\nreturn x\ndef ask()\nx = k.v\nreturn a in x")
        get, ask = one_method("get"), one_method("ask")
        self.is_same(newcomers(library), ("found", (get, ("put", 0, "a")), (ask,)))
        self.is_same(newcomers(library, callers=Callers((("k", "get"),))), ("found", (get, ("put", 0, "a")), (get,)))
        self.assertEqual(newcomers(library, callers=Callers(changes=False))[0], "blind")
        self.assertEqual(newcomers(library, callers=Callers((("k", "ask"),)))[0], "blind")
        # A call that is not allowed may notice something that no newcomer finds out.
        library = read_library("marks a\nkind k\nvalue v = {}\ndef add()\nk.v |= {a}\nreturn none\ndef ask()\nx = k.v\nreturn a in x")
        only = Callers((("k", "add"),))
        self.assertEqual((newcomers(library, callers=only)[0], notice(library, ask, callers=only)[0]), ("blind", "after"))


class Bounds(Case):
    def test_calls(self):
        library, more = read_library(bounds.SIXTY_CALLS), read_library(bounds.SIXTY_CALLS + bounds.ONE_MORE)
        paper = newcomers(library)
        self.assertEqual((paper[0], len(paper[1]), len(paper[2]), is_newcomers(library, paper)), ("found", 1, 1, True))
        for ask in (newcomers, lambda library, **options: is_newcomers(library, None, **options)):
            self.raises(TooMany("calls"), ask, more)
            self.raises(TooMany("calls"), ask, more, callers=NOBODY)
            self.raises(TooMany("calls"), ask, bounds.millions())

    def test_worlds(self):
        """They are looked at before joint worlds, also by the checker, whatever the thing is."""
        library = read_library(bounds.SIXTY_WORLDS)
        self.assertEqual(len(Table(library)), 60)
        self.raises(TooMany("joints"), newcomers, library)
        for most in (1, 30, 59):
            self.raises(TooMany("worlds"), newcomers, library, most=most)
            self.raises(TooMany("worlds"), newcomers, library, most=most, joints=1)
        self.assertIs(is_newcomers(library, None), False)
        for stop in (60, 63):
            library = bounds.counter(stop, "def ask()", "x = k.v", "return a in x")
            self.raises(TooMany("worlds"), newcomers, library)
            paper = ("found", (("call", "k", "pa", (), ()),), (("call", "j", "ask", (), ()),))
            for thing in (paper, None, ("blind", ()), *OBJECTS):
                self.raises(TooMany("worlds"), is_newcomers, library, thing)
            self.assertIs(is_newcomers(bounds.counter(59, "def ask()", "x = k.v", "return a in x"), paper), True)
            self.assertEqual(newcomers(library, callers=NOBODY)[0], "blind")

    def test_joints(self):
        for (many, is_finding), text in bounds.JOINTS.items():
            library = read_library(text)
            self.raises(TooMany("joints"), newcomers, library, joints=many - 1 if many == 120 else 120)
            if many > 120:
                self.raises(TooMany("joints"), newcomers, library)
                continue
            paper = newcomers(library)
            self.assertEqual(paper[0], "found" if is_finding else "blind")
            self.assertIs(is_newcomers(library, paper), True)
            if not is_finding:
                self.assertEqual((len(paper[1]), paper[1]), (120, tuple(sorted(paper[1]))))
                self.assertIs(is_newcomers(library, ("blind", paper[1][1:])), False)
            self.is_same(newcomers(library, most=len(Table(library)), joints=120), paper)

    def test_later_joint_worlds_count_too(self):
        """Though no step is allowed that leads from one to another one."""
        library = emptying_example()
        self.assertEqual(len(newcomers(library, joints=8)[1]), 8)
        for joints in range(1, 8):
            self.raises(TooMany("joints"), newcomers, library, joints=joints)
        library = first_example()
        self.assertEqual(newcomers(library)[0], "found")
        least = slow.reached_joints(library, library, slow.later_joints(library, Table(library)), None, 100)
        self.assertEqual(newcomers(library, joints=len(least))[0], "found")
        self.raises(TooMany("joints"), newcomers, library, joints=len(least) - 1)

    def test_papers_have_no_bound_of_joint_worlds(self):
        library = read_library(bounds.JOINTS[(121, False)])
        joints = tuple(slow.reached_joints(library, library, slow.later_joints(library, Table(library)), None, 130))
        self.assertEqual(len(joints), 121)
        self.assertIs(is_newcomers(library, ("blind", joints)), True)
        self.assertIs(is_newcomers(library, ("blind", joints[1:])), False)


class LikePython(Case):
    """Random libraries and callers, against slow searches by real classes."""

    def test_newcomers(self):
        told = {"found": 0, "blind": 0}
        for seed, library, callers, table in some_libraries(150, first=1000):
            joints = slow.reached_joints(library, library, slow.later_joints(library, table[0]), callers, 30)
            if joints is None:
                self.raises(TooMany("joints"), newcomers, library, callers=callers, joints=30)
                continue
            paper = newcomers(library, callers=callers, most=len(table[0]), joints=len(joints))
            if len(joints) > 1:
                self.raises(TooMany("joints"), newcomers, library, callers=callers, joints=len(joints) - 1)
            steps = slow.fewest_steps_to_find_out(library, table, callers, len(joints) + 1)
            if steps is None:
                self.is_same(paper, ("blind", tuple(joints)))
            else:
                self.assertEqual((paper[0], len(paper[1]) + len(paper[-1])), ("found", steps), seed)
            self.assertIs(slow.is_newcomers(library, paper, table[0], callers), True)
            self.assertIs(is_newcomers(library, paper, callers=callers), True)
            told[paper[0]] += 1
        self.assertGreater(min(told.values()), 25)

    def test_a_call_that_is_allowed_and_notices_finds_out(self):
        for seed, library, callers, table in some_libraries(100, first=2000):
            for call in calls_of(library):
                if callers is None or callers.allows(call, 0):
                    paper = notice(library, call, callers=callers)
                    if paper[0] == "after":
                        self.assertIs(is_newcomers(library, ("found", paper[1], (call,)), callers=callers), True)

    def test_bent_papers(self):
        told = {True: 0, False: 0}
        for seed, library, callers, table in some_libraries(60, first=3000):
            choose = random.Random(seed)
            try:
                paper = newcomers(library, callers=callers, joints=20)
            except TooMany:
                continue
            things = list(some_bent(choose, paper, 12))
            if paper[0] == "blind":
                parts = list(paper[1] + paper[1][:2])
                choose.shuffle(parts)
                things += [("blind", tuple(parts)), ("blind", self.more(choose, library, callers, paper[1]))]
            else:
                things += [("found", table[1][world], paper[2]) for world in table[0]]
            for thing in things:
                wanted = slow.is_newcomers(library, thing, table[0], callers)
                self.assertIs(is_newcomers(library, thing, callers=callers), wanted, (seed, thing))
                told[wanted] += 1
        self.assertGreater(min(told.values()), 40)

    def more(self, choose, library, callers, joints):
        return stretched(choose, joints, lambda joint: slow.joints_away(library, library, joint, callers)[0], 30)
