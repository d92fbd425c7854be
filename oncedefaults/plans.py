"""What runs of a library look up often, so that it is found only once."""

from oncedefaults.lookups import line_of, method_found, methods_seen, values_seen
from oncedefaults.words import all_contents


class Plan:
    """A library with its places in order and numbered, and with what its kinds see."""

    def __init__(self, library):
        kinds = library.kinds
        self.library = library
        self.marks = library.marks
        self.contents = all_contents(library.marks)
        self.order = library.places()
        self.spots = {place: at for at, place in enumerate(self.order)}
        # By kind and method, in the order of the calls: the kind where the method is written, and the method.
        self.homes = {
            (kind.name, name): method_found(kinds, kind, name)
            for kind in kinds for name in methods_seen(kinds, kind)
        }
        # By kind and value: the spots of the value at the kind, its base and so on, as far as these see it.
        self.lines = {
            (kind.name, name): spots_of(kinds, kind, name, self.spots)
            for kind in kinds for name in values_seen(kinds, kind)
        }


def spots_of(kinds, kind, name, spots):
    """The spots in which a class value of a kind is looked for, in this order."""
    places = [("value", above.name, name) for above in line_of(kinds, kind)]
    return tuple([spots[place] for place in places if place in spots])
