"""Real Python classes for a library: what the package says of a library is compared with what Python does.

A box is an object with a set of marks, a kind a class, a method a class method; names get prefixes, so that they may
be words of Python.
"""

import inspect
import itertools

from oncedefaults.forms import is_shared


class Box:
    def __init__(self, marks):
        self.marks = set(marks)

    def __ior__(self, marks):
        self.marks |= marks
        return self

    def __isub__(self, marks):
        self.marks -= marks
        return self

    def contents(self):
        return tuple(sorted(self.marks))


class LeftOut:
    pass


def owner_of(owner):
    return "cls" if owner == "cls" else f"k_{owner}"


def test_source(test, marks):
    if test[0] == "in":
        return f"({item_source(test[1], marks)} in n_{test[2]}.marks)"
    if test[0] == "equal":
        return f"(n_{test[1]}.marks == n_{test[2]}.marks)"
    return f"(n_{test[1]} is n_{test[2]})"


def item_source(item, marks):
    return f"n_{item}" if item in marks else repr(item)


def set_source(items, marks):
    return "set([" + ", ".join(item_source(item, marks) for item in items) + "])"


def row_source(row, marks):
    if row[0] == "if":
        return f"if {test_source(row[1], marks)}: {row_source(row[2], marks)}"
    if row[0] == "unless":
        return f"if not {test_source(row[1], marks)}: {row_source(row[2], marks)}"
    word, one = row[:2]
    if word == "new":
        return f"n_{one} = Box({set_source(row[2], marks)})"
    if word == "name":
        return f"n_{one} = n_{row[2]}"
    if word == "copy":
        return f"n_{one} = Box(n_{row[2]}.marks)"
    if word == "get":
        return f"n_{one} = {owner_of(row[2])}.v_{row[3]}"
    if word == "set":
        return f"{owner_of(one)}.v_{row[2]} = n_{row[3]}"
    if word in ("add", "drop"):
        return f"n_{one} {'|' if word == 'add' else '-'}= {set_source(row[2], marks)}"
    return f"{owner_of(one)}.v_{row[2]} {'|' if word == 'grow' else '-'}= {set_source(row[3], marks)}"


def result_source(returns, marks):
    if returns[0] == "none":
        return "return None"
    if returns[0] == "box":
        return f"return n_{returns[1]}"
    if returns[0] == "copy":
        return f"return Box(n_{returns[1]}.marks)"
    return f"return {test_source(returns[1], marks)}"


def early_source(kind, owner, value, own):
    """Within the body of a class its own values are plain names, and the class itself has no name yet."""
    if owner != kind.name:
        return f"k_{owner}.v_{value}"
    return f"v_{value}" if value in own else f"k_{kind.base}.v_{value}"


def default_source(kind, default):
    if default[0] == "mark":
        return repr(default[1])
    if default[0] == "once":
        return f"Box({default[1]!r})"
    if default[0] == "early":
        return early_source(kind, default[1], default[2], [name for name, _ in kind.own_values])
    return "LeftOut"


def method_source(kind, method):
    params = ["cls"]
    body = []
    for param in method.params:
        if param.named and "*" not in params:
            params.append("*")
        params.append(f"n_{param.name}" + (f"={default_source(kind, param.default)}" if param.default else ""))
        if param.default and param.default[0] == "anew":
            body.append(f"if n_{param.name} is LeftOut: n_{param.name} = Box({param.default[1]!r})")
        if param.default and param.default[0] == "late":
            body.append(f"if n_{param.name} is LeftOut: n_{param.name} = {owner_of(param.default[1])}.v_{param.default[2]}")
    marks = [param.name for param in method.params if param.holds == "mark"]
    body += [row_source(row, marks) for row in method.rows] + [result_source(method.returns, marks)]
    return ["  @classmethod", f"  def f_{method.name}({', '.join(params)}):"] + ["    " + line for line in body]


def source(library):
    lines = []
    for kind in library.kinds:
        lines.append(f"class k_{kind.name}({'k_' + kind.base if kind.base else ''}):")
        lines.append("  pass")
        for at, (name, making) in enumerate(kind.own_values):
            own = [other for other, _ in kind.own_values[:at]]
            made = f"Box({making[1]!r})" if making[0] == "once" else early_source(kind, making[1], making[2], own)
            lines.append(f"  v_{name} = {made}")
        for method in kind.methods:
            lines += method_source(kind, method)
    return "\n".join(lines)


def bases(library, kind):
    line = [kind]
    while line[-1].base is not None:
        line += [other for other in library.kinds if other.name == line[-1].base]
    return line


def places(library):
    found = []
    for kind in library.kinds:
        found += [("value", kind.name, name) for name in sorted({n for k in bases(library, kind) for n, _ in k.own_values})]
    for kind in library.kinds:
        for method in kind.methods:
            found += [("default", kind.name, method.name, p.name) for p in method.params if is_shared(p.default)]
    return found


class PythonRun:
    """A run of real classes."""

    def __init__(self, library):
        self.library = library
        self.names = {"Box": Box, "LeftOut": LeftOut}
        exec(source(library), self.names)
        self.held = []

    def put_into(self, world):
        """Puts the run into a world."""
        seats, contents = world
        boxes = [Box(marks) for marks, _ in contents]
        for place, seat in zip(places(self.library), seats):
            self.give(place, None if seat == -1 else boxes[seat])
        self.held = [box for box, (_, word) in zip(boxes, contents) if word == "held"]
        return self

    def give(self, place, box):
        """A place gets a box; a class value may also lose the one that it has."""
        owner = self.names[f"k_{place[1]}"]
        if place[0] == "value" and box is not None:
            setattr(owner, f"v_{place[2]}", box)
        elif place[0] == "value":
            if f"v_{place[2]}" in vars(owner):
                delattr(owner, f"v_{place[2]}")
        else:
            function = vars(owner)[f"f_{place[2]}"].__func__
            defaults = {param.name: param.default for param in inspect.signature(function).parameters.values()}
            defaults[f"n_{place[3]}"] = box
            kept = [(param, defaults[param.name]) for param in inspect.signature(function).parameters.values()]
            kept = [(param, default) for param, default in kept if default is not inspect.Parameter.empty]
            named = {param.name: default for param, default in kept if param.kind == param.KEYWORD_ONLY}
            function.__defaults__ = tuple(default for param, default in kept if param.kind != param.KEYWORD_ONLY)
            function.__kwdefaults__ = named

    def can_do(self, step):
        """Whether any object is a step that can be done now."""
        if type(step) is not tuple or len(step) not in (3, 5) or type(step[0]) is not str:
            return False
        if len(step) == 3:
            right = step[0] in ("put", "take") and type(step[1]) is int and type(step[2]) is str
            return right and 0 <= step[1] < len(self.held) and step[2] in self.library.marks
        word, kind, name, args, options = step
        if word != "call" or type(kind) is not str or type(name) is not str or type(args) is not tuple or type(options) is not tuple:
            return False
        methods = [method for owner, method in pairs_of(self.library) if (owner, method.name) == (kind, name)]
        if not methods or any(type(option) is not tuple or len(option) != 2 for option in options):
            return False
        names = [option[0] for option in options]
        if any(type(one) is not str for one in names) or len(set(names)) < len(names):
            return False
        function = getattr(self.names[f"k_{kind}"], f"f_{name}")
        try:
            inspect.signature(function).bind(*args, **{f"n_{key}": argument for key, argument in options})
        except TypeError:
            return False
        params = methods[0].params
        given = list(zip(params, args)) + [(next(param for param in params if param.name == key), one) for key, one in options]
        return self.takes(given)

    def takes(self, given):
        boxes = len(self.held)
        for param, argument in given:
            if param.holds == "mark":
                right = type(argument) is str and argument in self.library.marks
            elif type(argument) is tuple:
                right = are_contents(argument, self.library.marks)
                boxes += 1
            else:
                right = type(argument) is int and 0 <= argument < boxes
            if not right:
                return False
        return True

    def call(self, call, held):
        """Does a call of someone who holds these boxes; what it returns, and its new boxes."""
        _, kind, name, args, options = call
        news = []

        def meant(argument):
            if isinstance(argument, str):
                return argument
            if isinstance(argument, tuple):
                news.append(Box(argument))
                return news[-1]
            return (held + news)[argument]

        args = [meant(argument) for argument in args]
        options = {f"n_{key}": meant(argument) for key, argument in options}
        return getattr(self.names[f"k_{kind}"], f"f_{name}")(*args, **options), news

    def step(self, step):
        if step[0] != "call":
            box = self.held[step[1]]
            (box.marks.add if step[0] == "put" else box.marks.discard)(step[2])
            return ("none",)
        given, news = self.call(step, list(self.held))
        self.held += news
        if given is None:
            return ("none",)
        if isinstance(given, bool):
            return ("yes",) if given else ("no",)
        if not any(box is given for box in self.held):
            self.held.append(given)
        return ("box", [box is given for box in self.held].index(True))

    def report(self, call):
        """Changes the run."""
        given, news = self.call(call, [])
        own = tuple(box.contents() for box in news)
        if given is None:
            return ("none",), own
        if isinstance(given, bool):
            return (("yes",) if given else ("no",)), own
        for at, box in enumerate(news):
            if box is given:
                return ("own", at), own
        return ("box", given.contents()), own

    def view(self):
        return tuple(box.contents() for box in self.held)

    def at(self, place):
        """The box that a place has, None if it is unset."""
        owner = self.names[f"k_{place[1]}"]
        if place[0] == "value":
            return vars(owner).get(f"v_{place[2]}")
        return inspect.signature(vars(owner)[f"f_{place[2]}"].__func__).parameters[f"n_{place[3]}"].default

    def world(self):
        boxes = []
        seats = []
        for place in places(self.library):
            box = self.at(place)
            if box is None:
                seats.append(-1)
                continue
            if not any(box is other for other in boxes):
                boxes.append(box)
            seats.append([box is other for other in boxes].index(True))
        held = ["held" if any(box is other for other in self.held) else "free" for box in boxes]
        return tuple(seats), tuple(zip([box.contents() for box in boxes], held))


def are_contents(thing, marks):
    return type(thing) is tuple and all(type(mark) is str for mark in thing) and thing in contents_of(marks)


def contents_of(marks):
    return sorted(tuple(some) for n in range(len(marks) + 1) for some in itertools.combinations(marks, n))


def pairs_of(library):
    """The calls' kinds and methods, in the order of 16."""
    found = []
    for kind in library.kinds:
        seen = {}
        for above in reversed(bases(library, kind)):
            seen.update({method.name: method for method in above.methods})
        found += [(kind.name, seen[name]) for name in sorted(seen)]
    return found


def calls_at(library, held, methods=None, passes=True):
    """The plain calls of callers that hold so many boxes: all products of all choices, without the wrong numbers."""
    for kind, method in pairs_of(library):
        if methods is not None and (kind, method.name) not in methods:
            continue
        ways = []
        for param in method.params:
            left_out = [None] if param.default is not None else []
            numbers = list(range(held + 2)) if param.holds == "box" else []
            chosen = list(library.marks) if param.holds == "mark" else contents_of(library.marks)
            ways.append(left_out + chosen + [k for k in numbers if passes or k >= held])
        for filling in itertools.product(*ways):
            boxes = held
            right = True
            args, options = [], []
            for param, way in zip(method.params, filling):
                right = right and not (isinstance(way, int) and way >= boxes)
                boxes += isinstance(way, tuple)
                before = [other for other, _ in zip(filling, method.params[:method.params.index(param)])]
                if way is not None and (param.named or None in before):
                    options.append((param.name, way))
                elif way is not None:
                    args.append(way)
            if right:
                yield ("call", kind, method.name, tuple(args), tuple(options))


def steps_at(library, held, methods=None, changes=True, passes=True):
    yield from calls_at(library, held, methods, passes)
    for word in ("put", "take") if changes else ():
        for number in range(held):
            for mark in library.marks:
                yield (word, number, mark)


def run_behind(library, history):
    run = PythonRun(library)
    for step in history:
        run.step(step)
    return run


def is_free_of_held(step, held):
    """Whether a step passes no box that was held before it."""
    arguments = list(step[3]) + [argument for _, argument in step[4]] if step[0] == "call" else []
    return all(not isinstance(argument, int) or argument >= held for argument in arguments)


def table(library, most, **callers):
    """The worlds with histories, by breadth first over real histories; None if there are more worlds than most."""
    start = PythonRun(library).world()
    found = {start: ()}
    order = []
    after = {}
    level = [start]
    while level:
        order += level
        later = {}
        for world in level:
            held = len(run_behind(library, found[world]).held)
            nexts = set()
            for step in steps_at(library, held, **callers):
                run = run_behind(library, found[world] + (step,))
                other = run.world()
                nexts.add(other)
                if other not in found:
                    found[other] = found[world] + (step,)
                    later[other] = True
                    if len(found) > most:
                        return None
            after[world] = nexts
        level = sorted(later)
    return order, found, after
