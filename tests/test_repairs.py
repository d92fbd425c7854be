"""Points 30 to 33: choices, fewest, is_fewest, least_choices, classes."""

import random

from oncedefaults.errors import TooMany
from oncedefaults.joints import alike, newcomers
from oncedefaults.noticing import notice
from oncedefaults.parts import Kind, Library, Method, Param
from oncedefaults.repairs import choices, classes, fewest, is_fewest, least_choices
from oncedefaults.texts import read_library
from oncedefaults.worlds import Callers, Table, first_world
from tests import bounds, oracle, slow
from tests.bending import bent, some_bent
from tests.helpers import OBJECTS, Case, emptying_example, family_example, first_example
from tests.libraries import some_libraries
from tests.test_newcomers import SPLIT
from tests.test_noticing import NOBODY, put

EMPTY, A, B, AB = (), ("a",), ("b",), ("a", "b")
WAYS = ("calls", "newcomers")
INTO = ("default", "base", "put", "into")


def places(*names):
    """The places of defaults of kind k, each named by the letters of its method and its parameter."""
    return tuple(("default", "k", name[0], name[1]) for name in names)


# What f puts into its default, g tells by its own one, as both share the box of v; h is noticed by itself.
SHARED = read_library(
    "marks a\nkind k\nvalue v = {}\ndef f(box x=early k.v)\nx |= {a}\nreturn none\ndef g(box y=early k.v)\nreturn a in y"
    "\ndef h(box z=once {})\nx = copy z\nz |= {a}\nreturn a in x"
)
# Nobody notices anything, but the version with the default made anew has one world more.
RISING = read_library(
    "marks a\nkind k\nvalue u = {}\nvalue v = k.u\ndef f(*, box p=early k.v)\nx = cls.v\nunless a in p: cls.u = p\nreturn a in p"
)
# More than 60 worlds, as long as the default is made once; then two.
LARGE = (
    "marks a b c d e\nkind k\nvalue v = {}\ndef get(box x=once {})\nreturn x\ndef flip()\nk.v |= {a}\nreturn none"
)
LARGE_AND_EMPTY = LARGE.replace("return x", "x -= {a b c d e}\nreturn x")


def with_defaults(count):
    """A library in which so many defaults are noticed, each for itself."""
    names = "fghi"[:count]
    methods = [Method(name, Param("x", default=("once", ())), rows=(("copy", "y", "x"), ("add", "x", ("a",))), returns=("box", "y")) for name in names]
    return Library(Kind.of("k", methods), marks=("a",))


class Choices(Case):
    def test_order(self):
        self.is_same(choices(Library()), [()])
        self.is_same(choices(first_example()), [(), (INTO,)])
        f, g, h = places("fx", "gx", "hx")
        self.is_same(choices(library=with_defaults(3)), [(), (f,), (g,), (h,), (f, g), (f, h), (g, h), (f, g, h)])
        self.is_same(choices(SHARED), [(), *[places(*names) for names in (["fx"], ["gy"], ["hz"], ["fx", "gy"], ["fx", "hz"], ["gy", "hz"], ["fx", "gy", "hz"])]])

    def test_order_of_places_and_not_of_names(self):
        library = read_library(
            "marks a\nkind z\nvalue v = {}\ndef b(box y=once {}, box x=early z.v)\nreturn none\nkind a\ndef c(box x=once {}, *, box w=anew {})\nreturn none"
        )
        one, two, three = ("default", "z", "b", "y"), ("default", "z", "b", "x"), ("default", "a", "c", "x")
        self.is_same(choices(library), [(), (one,), (two,), (three,), (one, two), (one, three), (two, three), (one, two, three)])

    def test_more_defaults(self):
        library = with_defaults(4)
        self.assertEqual(len(library.defaults()), 4)
        self.raises(TooMany("defaults"), choices, library)
        for by in WAYS:
            self.raises(TooMany("defaults"), fewest, library, by=by)
            self.raises(TooMany("defaults"), least_choices, library, by=by)
            self.raises(TooMany("defaults"), is_fewest, library, None, by=by)
        self.raises(TooMany("defaults"), classes, library)
        self.raises(TooMany("defaults"), classes, library, callers=NOBODY, joints=1)
        many = bounds.millions()
        self.assertGreater(len(many.defaults()), 3)
        for ask in (choices, fewest, least_choices, classes, lambda library: is_fewest(library, None)):
            self.raises(TooMany("defaults"), ask, many)

    def test_random_libraries(self):
        for seed, library, _, _ in some_libraries(60):
            if len(library.defaults()) <= 3:
                self.is_same(choices(library), slow.choices(library))
                choices(library).clear()
                self.is_same(choices(library), slow.choices(library))


class Fewest(Case):
    def test_first_example(self):
        library = first_example()
        self.is_same(fewest(library)[1], (INTO,))
        paper = fewest(library=library, by="calls", callers=None, most=60, joints=120)
        self.is_same(paper, ("anew", (INTO,), (((), ()),), (((), (put("a"),), put("b")),)))
        self.is_same(fewest(library, by="newcomers"), ("anew", (INTO,), (((), ()),), (((), (put("a"),), (put("b"),)),)))
        self.is_same(fewest(library, callers=NOBODY), ("anew", (), (first_world(library),), ()))
        for by in WAYS:
            self.is_same(least_choices(library, by=by), [(INTO,)])
        self.is_same(least_choices(library, callers=NOBODY), [()])
        self.is_same(classes(library), [[()], [(INTO,)]])
        self.is_same(classes(library, callers=NOBODY), [[(), (INTO,)]])

    def test_emptying_example(self):
        library = emptying_example()
        self.is_same(fewest(library), ("anew", (), tuple(Table(library)), ()))
        self.is_same(fewest(library, by="newcomers"), ("anew", (), newcomers(library)[1], ()))
        self.is_same(classes(library), [[()], [tuple(library.defaults())]])

    def test_none_is_good(self):
        for by in WAYS:
            word, others = fewest(family_example(), by=by)
            self.assertEqual((word, [len(other) for other in others], others[0][0]), ("none", [3], ()))
            self.assertIs(is_fewest(family_example(), (word, others), by=by), True)
            self.assertEqual(least_choices(family_example(), by=by), [])
        library = read_library("marks a\nkind k\nvalue v = {}\ndef f(box x=once {})\ny = k.v\nz = copy y\nx |= {a}\nk.v |= {a}\nreturn z")
        for by in WAYS:
            word, others = fewest(library, by=by)
            self.assertEqual((word, [other[0] for other in others]), ("none", choices(library)))
            self.assertIs(is_fewest(library, (word, others), by=by), True)
            self.assertIs(is_fewest(library, (word, others[::-1]), by=by), False)
            self.assertIs(is_fewest(library, (word, others[:1]), by=by), False)
            self.assertIs(is_fewest(library, (word, others + others[:1]), by=by), False)

    def test_no_calls(self):
        library = Library(Kind("k", values=(("v", ("once", ())),)))
        self.is_same(fewest(library), ("anew", (), (((0,), ((EMPTY, "free"),)),), ()))
        self.is_same(fewest(library, by="newcomers"), ("anew", (), (((0, 1), ((EMPTY, "free"), (EMPTY, "free"))),), ()))
        for inside, right in ((((0,), ((EMPTY, "free"),)),), True), ((), False), ((((0,), ((A, "free"),)),), False), (((), ()), False):
            self.assertIs(is_fewest(library, ("anew", (), inside, ())), right)
        held = (((0,), ((EMPTY, "free"),)), ((0,), ((EMPTY, "held"),)))
        self.assertIs(is_fewest(library, ("anew", (), held, ())), False)
        self.assertIs(is_fewest(library, ("anew", (), held, ()), callers=Callers(changes=False)), True)
        self.is_same(classes(library), [[()]])

    def test_three_defaults(self):
        library = with_defaults(3)
        every = choices(library)
        for by in WAYS:
            paper = fewest(library, by=by)
            self.is_same((paper[0], paper[1], [other[0] for other in paper[3]]), ("anew", every[-1], every[:-1]))
            self.assertIs(is_fewest(library, paper, by=by), True)
            self.is_same(least_choices(library, by=by), [every[-1]])
        self.is_same(classes(library), [[choice] for choice in every])
        only = Callers((("k", "g"),))
        self.is_same(fewest(library, by="newcomers", callers=only)[1], every[2])
        self.is_same(fewest(library, callers=only)[1], every[2])
        self.is_same(classes(library, callers=only), [[every[at] for at in (0, 1, 3, 5)], [every[at] for at in (2, 4, 6, 7)]])

    def test_several_least_choices(self):
        for by in WAYS:
            self.is_same(fewest(SHARED, by=by)[1], places("fx", "hz"))
            self.is_same(least_choices(SHARED, by=by), [places("fx", "hz"), places("gy", "hz")])
            self.is_same(least_choices(library=SHARED, by=by, callers=None, most=60, joints=120), [places("fx", "hz"), places("gy", "hz")])
        only = Callers((("k", "f"), ("k", "g")))
        self.is_same(least_choices(SHARED, callers=only), [places("fx"), places("gy")])
        self.is_same(least_choices(SHARED, by="newcomers", callers=Callers((("k", "h"),))), [places("hz")])
        groups = classes(library=SHARED, callers=only, joints=120)
        self.is_same(groups, [[(), places("hz")], [places(*names) for names in (["fx"], ["gy"], ["fx", "gy"], ["fx", "hz"], ["gy", "hz"], ["fx", "gy", "hz"])]])

    def test_newcomers_need_more_than_calls(self):
        give = ("default", "k", "give", "x")
        self.is_same(fewest(SPLIT)[1], ())
        paper = fewest(SPLIT, by="newcomers")
        self.is_same((paper[:2], len(paper[3])), (("anew", (give,)), 1))
        self.assertIs(is_fewest(SPLIT, paper, by="newcomers"), True)
        self.assertIs(is_fewest(SPLIT, paper), False)
        self.assertIs(is_fewest(SPLIT, fewest(SPLIT), by="newcomers"), False)
        self.is_same(least_choices(SPLIT), [()])
        self.is_same(least_choices(SPLIT, by="newcomers"), [(give,)])

    def test_calls_need_more_than_newcomers(self):
        """Calls that are not allowed notice, too."""
        library = read_library("marks a\nkind k\nvalue v = {}\ndef f(box x=early k.v)\nx |= {a}\nreturn none\ndef g()\nx = k.v\nreturn a in x")
        only = Callers((("k", "f"),))
        self.is_same(fewest(library, callers=only)[1], places("fx"))
        self.is_same(fewest(library, by="newcomers", callers=only)[1], ())
        self.assertIs(is_fewest(library, fewest(library, callers=only), callers=only), True)
        self.assertIs(is_fewest(library, fewest(library, callers=only)), True)

    def test_new_lists(self):
        for ask in (choices, least_choices, classes):
            given = ask(first_example())
            before = repr(given)
            given.append(0)
            self.assertEqual(repr(ask(first_example())), before)
        classes(first_example())[0].clear()
        self.assertEqual(classes(first_example())[0], [()])


class Checking(Case):
    def test_right_papers_of_others(self):
        library = first_example()
        world = ((), ())
        for history, call in (
            ((put("a"),), put("b")), ((put("b"), put("b", ())), put("a")), ((put("a"), ("put", 0, "b")), put("a")), ((put("a"),) * 400, put(m="b")),
        ):
            others = (((), history, call),)
            self.assertIs(is_fewest(library, ("anew", (INTO,), (world,), others)), True)
            self.assertIs(is_fewest(library=library, thing=("anew", (INTO,), (world, world), others), by="calls", callers=None), True)
            self.assertIs(is_fewest(library, ("anew", (INTO,), (world,), others), by="newcomers"), False)
            self.assertIs(is_fewest(library, ("anew", (INTO,), (world,), (((), history, (call,)),)), by="newcomers"), True)
            for thing in (
                ("anew", (INTO,), (), others), ("anew", (), (world,), others), ("anew", (), (world,), ()), ("anew", (INTO,), (world,), ()),
                ("anew", (INTO,), (world,), others * 2), ("anew", [INTO], (world,), others), ("anew", INTO, (world,), others),
                ("anew", (INTO,), [world], others), ("anew", (INTO,), (world,), list(others)), ("anew", (INTO,), (world,), ([*others[0]],)),
                ("anew", (INTO,), (world,), (((), history),)), ("anew", (INTO,), (world,), (((INTO,), history, call),)),
                ("anew", (INTO,), (world,), (([], history, call),)), ("anew", (INTO,), (world,), (((), list(history), call),)),
                ("anew", (INTO,), (world,), (((), history, list(call)),)), ("anew", (INTO,), (world,), (((), (), call),)),
                ("anew", (INTO,), (world,), (((), history, put("a", ())),)), ("anew", (INTO,), (world,), (((), history, ("put", 0, "a")),)),
                ("anew", (INTO,), (world,), (((), (*history, put("c")), call),)), ("none", others), ("none", others * 2), ("none", ()),
                ["anew", (INTO,), (world,), others], ("anew", (INTO,), (world,), others, ()), ("anew", (INTO,), (world,)),
            ):
                self.assertIs(is_fewest(library, thing), False)
                self.assertIs(is_fewest(library, thing, by="newcomers"), False)
        self.assertIs(is_fewest(library, ("anew", (INTO,), (world,), (((), (put("a"),) * 401, put("b")),))), False)

    def test_callers(self):
        library = first_example()
        no_changes = Callers(changes=False)
        paper = ("anew", (INTO,), (((), ()),), (((), (put("a"), ("put", 0, "b")), put("a")),))
        self.assertIs(is_fewest(library, paper), True)
        self.assertIs(is_fewest(library, paper, callers=no_changes), False)
        self.assertIs(is_fewest(library, fewest(library), callers=no_changes), True)
        self.assertIs(is_fewest(library, fewest(library), callers=NOBODY), False)
        self.assertIs(is_fewest(library, fewest(library, callers=NOBODY), callers=NOBODY), True)
        self.assertIs(is_fewest(library, fewest(library, callers=NOBODY)), False)
        self.assertIs(is_fewest(library, ("anew", (INTO,), (((), ()),), ()), callers=NOBODY), False)
        only = Callers((("base", "note"),))
        base, heir = [("call", kind, "note", ("a",), ()) for kind in ("base", "heir")]
        for by in WAYS:
            for first, last in ((base, base), (base, heir), (heir, base), (heir, heir)):
                last = (*last[:3], ("b",), ())
                paper = ("none", (((), (first,), last if by == "calls" else (last,)),))
                self.assertIs(is_fewest(family_example(), paper, by=by), True)
                right = first == base and (by == "calls" or last[1] == "base")
                self.assertIs(is_fewest(family_example(), paper, by=by, callers=only), right)

    def test_any_object(self):
        for library in (first_example(), emptying_example(), Library()):
            for by in WAYS:
                for thing in OBJECTS:
                    for paper in (
                        thing, ("none", thing), ("none", (thing,)), ("anew", thing, thing, thing), ("anew", (), thing, ()), ("anew", (), (thing,), ()),
                        ("anew", (), (), thing), ("anew", (INTO,), (((), ()),), thing), ("anew", (INTO,), (((), ()),), (thing,)),
                        ("anew", (INTO,), (((), ()),), ((thing, thing, thing),)), ("anew", (INTO,), (((), ()),), (((), thing, thing),)), (thing, ()),
                        (thing, (), (((), ()),), ()),
                    ):
                        self.assertIs(is_fewest(library, paper, by=by), slow.is_fewest(library, paper, by, None, 60), paper)

    def test_all_bent_papers(self):
        callers = Callers(changes=False)
        for library, by in ((first_example(), "calls"), (first_example(), "newcomers"), (emptying_example(), "newcomers"), (family_example(), "calls")):
            paper = fewest(library, by=by, callers=callers)
            told = 0
            for thing in bent(paper):
                wanted = slow.is_fewest(library, thing, by, callers, 60)
                told += wanted
                self.assertIs(is_fewest(library, thing, by=by, callers=callers), wanted, thing)
            self.assertGreater(told, 0)


class Bounds(Case):
    def test_calls(self):
        library, more = read_library(bounds.SIXTY_CALLS), read_library(bounds.SIXTY_CALLS + bounds.ONE_MORE)
        self.assertEqual(len(library.defaults()), 3)
        for by in WAYS:
            paper = fewest(library, by=by)
            self.assertEqual(paper[:2], ("anew", places("fx")))
            self.assertIs(is_fewest(library, paper, by=by), True)
            self.assertEqual(least_choices(library, by=by), [places("fx")])
            for callers in (None, NOBODY):
                self.raises(TooMany("calls"), fewest, more, by=by, callers=callers)
                self.raises(TooMany("calls"), least_choices, more, by=by, callers=callers)
                for thing in (paper, None, ("none", ())):
                    self.raises(TooMany("calls"), is_fewest, more, thing, by=by, callers=callers)
        self.assertEqual([len(group) for group in classes(library)], [4, 4])
        self.raises(TooMany("calls"), classes, more)
        self.raises(TooMany("calls"), classes, more, callers=NOBODY)

    def test_one_choice_is_not_compared(self):
        params = [Param("x", default=("anew", ())), Param("y", default=("anew", ()))]
        library = Library(Kind.of("k", [Method.of(name, params) for name in "fghi"]), marks=tuple("abcdef"))
        self.is_same(classes(library), [[()]])
        self.is_same(classes(bounds.counters(15, 15), joints=1), [[()]])
        self.raises(TooMany("calls"), fewest, library)
        self.is_same(choices(library), [()])

    def test_worlds_of_each_version_until_one_is_good(self):
        sizes = [len(Table(RISING.version(choice))) for choice in choices(RISING)]
        self.assertEqual(sizes, [3, 4])
        for by in WAYS:
            self.assertEqual(fewest(RISING, by=by, most=3)[:2], ("anew", ()))
            self.raises(TooMany("worlds"), fewest, RISING, by=by, most=2)
            self.assertEqual(least_choices(RISING, by=by, most=4), [()])
            self.raises(TooMany("worlds"), least_choices, RISING, by=by, most=3)
        # The first version is looked at, too, if it is not good.
        self.assertEqual([len(Table(first_example().version(choice))) for choice in choices(first_example())], [5, 1])
        self.assertEqual(fewest(first_example(), most=5)[1], (INTO,))
        for by in WAYS:
            self.raises(TooMany("worlds"), fewest, first_example(), by=by, most=4)
            self.raises(TooMany("worlds"), least_choices, first_example(), by=by, most=4)
        self.raises(TooMany("worlds"), fewest, read_library(LARGE))
        self.raises(TooMany("worlds"), least_choices, read_library(LARGE_AND_EMPTY))

    def test_joint_worlds_of_each_version(self):
        many = []
        for choice in choices(RISING):
            version = RISING.version(choice)
            many.append(len(slow.reached_joints(version, version, slow.later_joints(version, Table(version)), None, 100)))
        self.assertLess(many[0], many[1])
        self.assertEqual(fewest(RISING, by="newcomers", joints=many[0])[:2], ("anew", ()))
        self.raises(TooMany("joints"), fewest, RISING, by="newcomers", joints=many[0] - 1)
        self.assertEqual(least_choices(RISING, by="newcomers", joints=many[1]), [()])
        self.raises(TooMany("joints"), least_choices, RISING, by="newcomers", joints=many[1] - 1)
        self.raises(TooMany("worlds"), fewest, RISING, by="newcomers", joints=1, most=1)
        # By calls joint worlds do not count.
        self.assertEqual((fewest(RISING, joints=1)[1], least_choices(RISING, joints=1)), ((), [()]))

    def test_at_the_bound_of_joint_worlds(self):
        library = read_library(bounds.JOINTS[(120, False)])
        self.assertEqual(len(library.defaults()), 1)
        paper = fewest(library, by="newcomers")
        self.assertEqual((paper[1], len(paper[2]), paper[3]), ((), 120, ()))
        self.assertIs(is_fewest(library, paper, by="newcomers"), True)
        self.raises(TooMany("joints"), fewest, library, by="newcomers", joints=119)
        library = read_library(bounds.JOINTS[(121, False)])
        self.raises(TooMany("joints"), fewest, library, by="newcomers")
        self.raises(TooMany("joints"), least_choices, library, by="newcomers")
        joints = tuple(slow.reached_joints(library, library, slow.later_joints(library, Table(library)), None, 130))
        self.assertIs(is_fewest(library, ("anew", (), joints, ()), by="newcomers"), True)

    def test_joint_worlds_of_classes(self):
        lines = ["def ask(*, box x=once {})", "return none"]
        library = bounds.counters(11, 9, *lines)
        self.is_same(classes(library), [choices(library)])
        self.raises(TooMany("joints"), classes, library, joints=119)
        self.raises(TooMany("joints"), classes, bounds.counters(10, 10, *lines))
        self.is_same(classes(bounds.counters(10, 10, *lines), callers=NOBODY, joints=1), [choices(library)])

    def test_worlds_in_papers(self):
        """The checker bounds only the worlds of the chosen version, and by newcomers only."""
        library = read_library(LARGE)
        self.raises(TooMany("worlds"), Table, library)
        get = ("call", "k", "get", (), ())
        (place,), = choices(library)[1:]
        others = (((), (get, ("put", 0, "a")), get),)
        inside = tuple(Table(library.version((place,))))
        self.assertEqual(len(inside), 2)
        self.assertIs(is_fewest(library, ("anew", (place,), inside, others)), True)
        joints = newcomers(library.version((place,)))[1]
        others = (((), (get, ("put", 0, "a")), (get,)),)
        self.assertIs(is_fewest(library, ("anew", (place,), joints, others), by="newcomers"), True)
        for thing in (("anew", (), None, None), ("anew", (), joints, ()), ("anew", (), [], others)):
            self.raises(TooMany("worlds"), is_fewest, library, thing, by="newcomers")
            self.assertIs(is_fewest(library, thing), False)
            self.assertIs(is_fewest(library, thing, by="newcomers", callers=Callers((("k", "flip"),))), False)
        for thing in (["anew", (), None, None], ("anew", [], None, None), ("anew", (), None), ("none", None), ("some", (), None, None), ("anew", (place, place), None, None)):
            self.assertIs(is_fewest(library, thing, by="newcomers"), False)

    def test_more_than_sixty_worlds_in_a_right_paper(self):
        library = read_library(LARGE_AND_EMPTY)
        self.raises(TooMany("worlds"), Table, library)
        contents = oracle.contents_of("abcde")
        worlds = [((0, 1), ((v, "free"), (x, "held"))) for v in (EMPTY, A) for x in contents]
        worlds += [((0, 1), ((v, "free"), (EMPTY, "free"))) for v in (EMPTY, A)]
        self.assertEqual(len(worlds), 66)
        self.assertIs(is_fewest(library, ("anew", (), tuple(worlds), ())), True)
        for at in (0, 1, 31, 32, 63, 64, 65):
            self.assertIs(is_fewest(library, ("anew", (), tuple(worlds[:at] + worlds[at + 1:]), ())), False)

    def test_sixty_worlds(self):
        lines = ["def ask(box x=once {a})", "x = k.v", "return a in x"]
        library = bounds.counters(11, 4, *lines)
        word, others = fewest(library)
        self.assertEqual((word, [other[0] for other in others]), ("none", choices(library)))
        self.raises(TooMany("worlds"), fewest, library, most=59)
        self.raises(TooMany("worlds"), fewest, bounds.counters(12, 4, *lines))


class LikePython(Case):
    """Random libraries and callers, against slow searches by real classes."""

    def libraries(self, count, first):
        found = 0
        for seed, library, callers, table in some_libraries(4 * count, first=first, most_calls=10, most_worlds=8):
            if 1 <= len(library.defaults()) <= (3 if seed % 4 == 0 else 2) and found < count:
                found += 1
                yield seed, library, callers

    def test_fewest_and_least(self):
        told = {}
        for seed, library, callers in self.libraries(50, 4000):
            for by in WAYS:
                good = {choice: slow.is_good(library.version(choice), by, callers, 10) for choice in slow.choices(library)}
                if None in good.values():
                    continue
                right = [choice for choice in good if good[choice]]
                paper = fewest(library, by=by, callers=callers)
                if right:
                    earlier = slow.choices(library)[:slow.choices(library).index(right[0])]
                    self.assertEqual((paper[0], paper[1]), ("anew", right[0]), seed)
                    self.same_inside(library.version(right[0]), paper[2], by, callers)
                else:
                    earlier = slow.choices(library)
                    self.assertEqual(paper[0], "none", seed)
                self.is_same([other[0] for other in paper[-1]], earlier)
                self.assertTrue(slow.is_fewest(library, paper, by, callers, 10), seed)
                self.assertIs(is_fewest(library, paper, by=by, callers=callers), True)
                least = [one for one in right if not any(set(other) < set(one) for other in right)]
                self.is_same(least_choices(library, by=by, callers=callers), least)
                for one in right:
                    self.assertTrue(all(other in right for other in good if set(one) <= set(other)))
                told[(paper[0], len(paper[1]) if right else 0)] = told.get((paper[0], len(paper[1]) if right else 0), 0) + 1
        self.assertGreater(min(told[key] for key in (("anew", 0), ("anew", 1), ("none", 0))), 5, told)

    def same_inside(self, version, inside, by, callers):
        order = slow.table(version, callers, 10)[0]
        if by == "calls":
            self.is_same(inside, tuple(order))
        else:
            self.is_same(inside, tuple(slow.reached_joints(version, version, slow.later_joints(version, order), callers, 50)))

    def test_bent_papers(self):
        told = {True: 0, False: 0}
        for seed, library, callers in self.libraries(40, 5000):
            choose = random.Random(seed)
            by = choose.choice(WAYS)
            try:
                paper = fewest(library, by=by, callers=callers, most=10, joints=20)
            except TooMany:
                continue
            things = list(some_bent(choose, paper, 15)) + [paper]
            things += [replaced for choice in choices(library) for replaced in (("anew", choice, *paper[2:]), ("anew", choice, *paper[-1:] * 2))]
            for thing in things:
                try:
                    given = is_fewest(library, thing, by=by, callers=callers)
                except TooMany as error:
                    self.assertEqual((error.what, by, thing[1] in choices(library)), ("worlds", "newcomers", True))
                    continue
                wanted = slow.is_fewest(library, thing, by, callers, 60)
                self.assertIs(given, wanted, (seed, thing))
                told[wanted] += 1
        self.assertGreater(min(told.values()), 30)

    def test_classes(self):
        several = 0
        for seed, library, callers in self.libraries(40, 6000):
            try:
                given = classes(library, callers=callers, joints=40)
            except TooMany:
                continue
            wanted = []
            for choice in slow.choices(library):
                for group in wanted:
                    if self.are_alike(library.version(group[0]), library.version(choice), callers):
                        group.append(choice)
                        break
                else:
                    wanted.append([choice])
            self.is_same(given, wanted)
            several += len(wanted) > 1
            for group in given:
                for choice in group:
                    self.assertIs(alike(library.version(choice), library.version(group[-1]), callers=callers), True)
        self.assertGreater(several, 10)

    def are_alike(self, one, other, callers):
        first = slow.joint(oracle.PythonRun(one), oracle.PythonRun(other))
        joints = slow.reached_joints(one, other, [first], callers, 60)
        return not any(slow.joints_away(one, other, joint, callers)[1] for joint in joints)

    def test_a_good_version_is_not_noticed(self):
        for seed, library, callers in self.libraries(30, 7000):
            paper = fewest(library, callers=callers)
            if paper[0] == "anew":
                version = library.version(paper[1])
                for call in oracle.calls_at(version, 0):
                    self.is_same(notice(version, call, callers=callers), ("never", paper[2]))
