"""The examples of the document, word for word."""

import builtins
import doctest

from oncedefaults.joints import alike, compare, newcomers
from oncedefaults.noticing import notice
from oncedefaults.repairs import fewest
from oncedefaults.runs import Run, calls_of
from oncedefaults.texts import read_library, show_library
from tests.helpers import Case, emptying_example, family_example, first_example

FIRST = """
>>> from oncedefaults.parts import Kind, Library, Method, Param
>>> from oncedefaults.runs import Run
>>> into = Param("into", default=("once", ()))
>>> put = Method("put", Param("m", holds="mark"), into, rows=(("add", "into", ("m",)),), returns=("box", "into"))
>>> library = Library(Kind("base", put))
>>> run = Run(library)
>>> run.call("base", "put", "a")
('box', 0)
>>> run.call("base", "put", "b", into=())
('box', 1)
>>> run.call("base", "put", m="b")
('box', 0)
>>> run.view
(('a', 'b'), ('b',))
>>> run.world
((0,), ((('a', 'b'), 'held'),))
>>> from oncedefaults.repairs import fewest
>>> fewest(library)[1]
(('default', 'base', 'put', 'into'),)
"""

FAMILY = """
>>> rows = (("grow", "cls", "seen", ("m",)), ("get", "x", "cls", "seen"))
>>> note = Method("note", Param("m", holds="mark"), rows=rows, returns=("copy", "x"))
>>> family = Library(Kind("base", note, values=(("seen", ("once", ())),)), Kind("heir", base="base"))
>>> run = Run(family)
>>> run.world
((0, -1), (((), 'free'),))
>>> run.call("heir", "note", "a")
('box', 0)
>>> run.world
((0, 0), ((('a',), 'free'),))
"""


class Examples(Case):
    def test_shown(self):
        """All of it in one go, as it stands there."""
        example = doctest.DocTestParser().get_doctest(FIRST + FAMILY, {}, "examples", None, 0)
        told = []
        results = doctest.DocTestRunner(verbose=False).run(example, out=told.append)
        # What is shown last stays behind as a builtin.
        vars(builtins).pop("_", None)
        self.assertEqual((results.failed, results.attempted, told), (0, 20, []))

    def test_text_of_the_first_library(self):
        text = "marks a b\nkind base\ndef put(mark m, box into=once {})\ninto |= {m}\nreturn into"
        self.assertEqual(show_library(first_example()), text)
        self.assertEqual(read_library(text), first_example())

    def test_the_heir_has_the_box_of_its_base(self):
        run = Run(family_example())
        run.call("heir", "note", "a")
        run.call("base", "note", "b")
        self.assertEqual(run.world, ((0, 0), ((("a", "b"), "free"),)))

    def test_a_library_that_always_empties_its_default(self):
        library = read_library("marks a b\nkind base\ndef get(box x=once {})\nx -= {a b}\nreturn x")
        self.assertEqual(library, emptying_example())
        version = library.made_anew(("default", "base", "get", "x"))
        for call in calls_of(library):
            self.assertEqual(notice(library, call)[0], "never")
        self.assertEqual(fewest(library)[1], ())
        self.assertIs(alike(library, version), False)
        get = ("call", "base", "get", (), ())
        self.assertEqual(compare(library, version), ("apart", (get, get)))
        for one, answer in ((library, ("box", 0)), (version, ("box", 1))):
            run = Run(one)
            self.assertEqual((run.step(get), run.step(get)), (("box", 0), answer))
        self.assertEqual(newcomers(library)[0], "blind")
