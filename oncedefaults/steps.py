"""Steps in form, and the binding of the arguments of calls (13 to 15)."""

from oncedefaults.errors import (
    BadArgument, BadMark, BadStep, GivenTwice, Missing, NoBox, NoOption, TooManyArguments,
)
from oncedefaults.words import is_contents, is_number_below


def is_call(thing):
    """Whether any object is a call in form."""
    if not isinstance(thing, tuple) or len(thing) != 5 or thing[0] != "call":
        return False
    args, options = thing[3], thing[4]
    if not isinstance(args, tuple) or not isinstance(options, tuple):
        return False
    return all([isinstance(option, tuple) and len(option) == 2 for option in options])


def is_change(thing):
    """Whether any object is a put or a take in form."""
    return isinstance(thing, tuple) and len(thing) == 3 and (thing[0] == "put" or thing[0] == "take")


def arguments_of(call):
    """The arguments of a call in form, in the order in which they are written."""
    return [*call[3], *[argument for _, argument in call[4]]]


def check_change(plan, change, held):
    """Raises the first error of a put or take of a caller that holds so many boxes."""
    _, number, mark = change
    if not is_number_below(number, held):
        raise NoBox(number)
    if mark not in plan.marks:
        raise BadMark(mark)


def bound(plan, call, held):
    """The arguments of a call, as written, as pairs (parameter, argument); the caller holds so many boxes."""
    if not is_call(call):
        raise BadStep(call)
    params = plan.library.method_of(call[1], call[2]).params
    given = by_position(params, call[3])
    for name, argument in call[4]:
        wanted = [param for param in params if param.name == name]
        if len(wanted) == 0:
            raise NoOption(name)
        if name in [param.name for param, _ in given]:
            raise GivenTwice(name)
        given.append((wanted[0], argument))
    check_missing(params, given)
    check_taken(plan, given, held)
    return given


def by_position(params, args):
    """The arguments by position, as pairs (parameter, argument)."""
    taking = [param for param in params if not param.named]
    if len(args) > len(taking):
        raise TooManyArguments(len(args))
    return list(zip(taking, args))


def check_missing(params, given):
    """Each parameter has an argument or a default."""
    names = [param.name for param, _ in given]
    for param in params:
        if param.default is None and param.name not in names:
            raise Missing(param.name)


def check_taken(plan, given, held):
    """Each parameter takes its argument; the new boxes are numbered behind the held ones."""
    boxes = held
    for param, argument in given:
        if not is_taken(plan, param, argument, boxes):
            raise BadArgument(param.name)
        if isinstance(argument, tuple):
            boxes += 1


def is_taken(plan, param, argument, boxes):
    """Whether a parameter takes an argument, any object, where there are so many boxes so far."""
    if param.holds == "mark":
        return argument in plan.marks
    return is_contents(argument, plan.marks) or is_number_below(argument, boxes)


def with_numbers(step, numbers, held):
    """A step of callers with other numbers for their boxes.

    The held ones have these numbers, and the new ones are numbered from held on.
    """
    if is_change(step):
        return step[0], numbers[step[1]], step[2]
    args = tuple([with_number(argument, numbers, held) for argument in step[3]])
    options = tuple([(name, with_number(argument, numbers, held)) for name, argument in step[4]])
    return "call", step[1], step[2], args, options


def with_number(argument, numbers, held):
    """An argument with another number, if it is one."""
    if isinstance(argument, str) or isinstance(argument, tuple):
        return argument
    if argument < len(numbers):
        return numbers[argument]
    return held + argument - len(numbers)
