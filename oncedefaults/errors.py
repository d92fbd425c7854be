"""The errors of the package: those of parts and questions, and those of calls."""


class PartError(ValueError):
    """Something that was passed is not as described."""


class CallError(TypeError):
    """A step cannot be done."""


class BadName(PartError):
    """No name."""

    def __init__(self, name):
        self.name = name


class BadParam(PartError):
    """A part of a parameter that is not as described."""

    def __init__(self, part):
        self.part = part


class BadRow(PartError):
    """The first row that is not as described; the result stands behind the rows."""

    def __init__(self, at):
        self.at = at


class BadValue(PartError):
    """The first value that is not as described."""

    def __init__(self, at):
        self.at = at


class BadMarks(PartError):
    """No marks of a library."""

    def __init__(self, marks):
        self.marks = marks


class BadOrder(PartError):
    """A parameter that stands behind one that it must precede."""

    def __init__(self, name):
        self.name = name


class Twice(PartError):
    """A name that an earlier part has already."""

    def __init__(self, name):
        self.name = name


class Clash(PartError):
    """A name that means something else in the library."""

    def __init__(self, name):
        self.name = name


class NoBase(PartError):
    """A base that is no earlier kind."""

    def __init__(self, base):
        self.base = base


class NoMark(PartError):
    """An item that is no mark."""

    def __init__(self, mark):
        self.mark = mark


class NoValue(PartError):
    """A class value that is not seen."""

    def __init__(self, owner, value):
        self.owner = owner
        self.value = value


class NoDefault(PartError):
    """No place of a default that is made once."""

    def __init__(self, place):
        self.place = place


class BadText(PartError):
    """The first line that is not right."""

    def __init__(self, at):
        self.at = at


class BadHistory(PartError):
    """The first step that cannot be done, or is not allowed."""

    def __init__(self, at):
        self.at = at


class BadCallers(PartError):
    """A part of callers that is not as described."""

    def __init__(self, part):
        self.part = part


class BadWorld(PartError):
    """No world."""

    def __init__(self, given):
        self.given = given


class NoWorld(PartError):
    """No index of a world of a table."""

    def __init__(self, index):
        self.index = index


class UnlikeFaces(PartError):
    """Two libraries that callers see differently."""


class TooMany(PartError):
    """More of something than is looked at."""

    def __init__(self, what):
        self.what = what


class BadStep(CallError):
    """No step in form."""

    def __init__(self, given):
        self.given = given


class NoKind(CallError):
    """No kind of the library."""

    def __init__(self, kind):
        self.kind = kind


class NoMethod(CallError):
    """No method that the kind sees."""

    def __init__(self, name):
        self.name = name


class TooManyArguments(CallError):
    """More arguments by position than there are parameters for them."""

    def __init__(self, count):
        self.count = count


class NoOption(CallError):
    """An argument by name for which there is no parameter."""

    def __init__(self, name):
        self.name = name


class GivenTwice(CallError):
    """A parameter with two arguments."""

    def __init__(self, name):
        self.name = name


class Missing(CallError):
    """A parameter with neither an argument nor a default."""

    def __init__(self, name):
        self.name = name


class BadArgument(CallError):
    """A parameter that does not take its argument."""

    def __init__(self, name):
        self.name = name


class NoBox(CallError):
    """No number of a held box."""

    def __init__(self, k):
        self.k = k


class BadMark(CallError):
    """No mark of the library."""

    def __init__(self, mark):
        self.mark = mark
