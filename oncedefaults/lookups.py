"""What the kinds of a library see, and the boxes that they have when the library is made (8 to 10)."""

from oncedefaults.forms import is_shared


def kind_named(kinds, name):
    """The kind of this name, any object; None if there is none."""
    for kind in kinds:
        if kind.name == name:
            return kind
    return None


def line_of(kinds, kind):
    """A list of the kind, its base, the base of that, and so on."""
    line = [kind]
    while line[-1].base is not None:
        line.append(kind_named(kinds, line[-1].base))
    return line


def values_seen(kinds, kind):
    """The names of the values that a kind sees, ascending."""
    return sorted({name for above in line_of(kinds, kind) for name, _ in above.own_values})


def methods_seen(kinds, kind):
    """The names of the methods that a kind sees, ascending."""
    return sorted({method.name for above in line_of(kinds, kind) for method in above.methods})


def method_found(kinds, kind, name):
    """The nearest method of this name, any object, as a pair (name of its kind, method); None if there is none."""
    for above in line_of(kinds, kind):
        for method in above.methods:
            if method.name == name:
                return above.name, method
    return None


def makings(kinds):
    """All that is made with a library, in this order, as pairs (place, making)."""
    found = []
    for kind in kinds:
        found.extend([(("value", kind.name, name), making) for name, making in kind.own_values])
        for method in kind.methods:
            for param in method.params:
                if is_shared(param.default):
                    found.append((("default", kind.name, method.name, param.name), param.default))
    return found


def shared_defaults(kinds):
    """The places of the defaults that are made once, in order."""
    return [place for place, _ in makings(kinds) if place[0] == "default"]


def seat_found(kinds, seats, owner, value):
    """The number of the box that a class value has, of the seats made so far."""
    for above in line_of(kinds, kind_named(kinds, owner)):
        seat = seats.get(("value", above.name, value))
        if seat is not None:
            return seat
    return None


def made(kinds):
    """The boxes of a library that was just made: a dict of their numbers by places, and a list of their contents."""
    seats = {}
    boxes = []
    for place, making in makings(kinds):
        if making[0] == "once":
            seats[place] = len(boxes)
            boxes.append(making[1])
        else:
            seats[place] = seat_found(kinds, seats, making[1], making[2])
    return seats, boxes
