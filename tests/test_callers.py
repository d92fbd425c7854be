"""Point 19 and class Callers."""

from oncedefaults.errors import BadCallers
from oncedefaults.parts import Param
from oncedefaults.worlds import Callers
from tests.helpers import NO_NAMES, OBJECTS, Case
from tests.test_steps import NO_STEPS

NUMBERS = [-1, 0, 1, 2, 3, 10 ** 39, -(10 ** 39)]


class Making(Case):
    def test_attributes(self):
        self.assertEqual(vars(Callers()), {"methods": None, "changes": True, "passes": True})
        methods = (("k", "g"), ("k", "f"), ("nokind", "nomethod"))
        callers = Callers(methods, changes=False, passes=False)
        self.assertEqual(vars(callers), {"methods": methods, "changes": False, "passes": False})
        self.assertEqual(Callers(methods=()).methods, ())
        with self.assertRaises(TypeError):
            Callers(None, True)

    def test_bad_methods(self):
        wrong = [
            (("k",),), (("k", "f", "g"),), [("k", "f")], (["k", "f"],), (("k", "f"), ("k", "f")), (("k", "f"), ("j", "f"), ("k", "f")),
            ("k", "f"), (("k", 1),), (("k", True),), ("kf",), (("k", ("f",)),), (("k", ["f"]),), "kf", (("k", "f"), "kf"),
        ]
        for thing in wrong + OBJECTS:
            if thing is not None and thing != ():
                self.raises(BadCallers("methods"), Callers, thing)
        for name in NO_NAMES:
            self.raises(BadCallers("methods"), Callers, ((name, "f"),))
            self.raises(BadCallers("methods"), Callers, (("k", name),))

    def test_bad_flags(self):
        for thing in OBJECTS:
            if thing is not True and thing is not False:
                self.raises(BadCallers("changes"), Callers, changes=thing)
                self.raises(BadCallers("passes"), Callers, passes=thing)
        self.raises(BadCallers("methods"), Callers, 1, changes=1, passes=1)
        self.raises(BadCallers("changes"), Callers, changes=1, passes=1)

    def test_equality(self):
        one = Callers((("k", "f"), ("k", "g")), changes=False)
        self.assertEqual(one, Callers((("k", "f"), ("k", "g")), changes=False))
        for other in (Callers((("k", "g"), ("k", "f")), changes=False), Callers((("k", "f"), ("k", "g"))), Callers(changes=False),
                      Callers((("k", "f"), ("k", "g")), changes=False, passes=False), Param("k"), *OBJECTS):
            self.assertFalse(one == other)
            self.assertTrue(one != other)
        self.assertNotEqual(Callers(), Callers(()))


class Allowed(Case):
    def call(self, *args, kind="k", name="f", **options):
        return ("call", kind, name, args, tuple(options.items()))

    def test_no_steps_in_form(self):
        for callers in (Callers(), Callers((("k", "f"),)), Callers((), passes=False)):
            for thing in NO_STEPS + [thing for thing in OBJECTS if thing not in (("put", 0, "a"), self.call(kind="base", name="put"))]:
                for held in (0, 1, 10 ** 39):
                    self.assertIs(callers.allows(thing, held), False, thing)

    def test_changes(self):
        for thing in OBJECTS:
            for word in ("put", "take"):
                for methods in (None, (), (("put", "a"),)):
                    for passes in (True, False):
                        self.assertIs(Callers(methods, passes=passes).allows((word, thing, thing), 0), True)
                        self.assertIs(Callers(methods, passes=passes, changes=False).allows((word, 0, thing), 3), False)

    def test_methods(self):
        callers = Callers((("k", "f"), ("j", "g")))
        self.assertIs(callers.allows(step=self.call(), held=0), True)
        self.assertIs(callers.allows(self.call(kind="j", name="g"), 5), True)
        self.assertIs(callers.allows(self.call(kind="j", name="f"), 5), False)
        self.assertIs(callers.allows(self.call(name="g"), 5), False)
        for thing in OBJECTS:
            self.assertIs(Callers().allows(self.call(thing, kind=thing, name=thing, x=thing), 0), True)
            self.assertIs(callers.allows(self.call(kind="k", name=thing), 0), False)
            self.assertIs(callers.allows(self.call(kind=thing, name="f"), 0), False)
            self.assertIs(callers.allows(self.call(kind=["k"], name=thing), 0), False)

    def test_passes(self):
        callers = Callers(passes=False)
        for held in (0, 1, 2, 3, 10 ** 39 + 1):
            for number in NUMBERS:
                allowed = not 0 <= number < held
                for step in (self.call(number), self.call((), "a", number), self.call(x=number), self.call((), x=(), y=number),
                             ("call", [], 7, (None, number), ((True, ()),)), ("call", "k", "f", (), (([], number),))):
                    self.assertIs(callers.allows(step, held), allowed)
                    self.assertIs(Callers().allows(step, held), True)
        for thing in OBJECTS + [(0,), [0], ((0,),)]:
            if isinstance(thing, bool) or not isinstance(thing, int):
                self.assertIs(callers.allows(self.call(thing), 10 ** 39), True)
                self.assertIs(callers.allows(self.call(x=thing), 10 ** 39), True)
                self.assertIs(callers.allows(("call", "k", "f", (), ((0, thing),)), 10 ** 39), True)
        self.assertIs(callers.allows(self.call(0, kind=0, name=0), 0), True)
        self.assertIs(callers.allows(self.call((), kind=0, name=0), 5), True)
