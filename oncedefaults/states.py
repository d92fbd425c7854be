"""Where a run stands, and the worlds that are seen of it (9, 16 to 18)."""

from oncedefaults.lookups import made
from oncedefaults.words import is_contents, is_integer


class State:
    """Which box each place has, what the boxes contain, and which of them the caller holds.

    The boxes have numbers of their own here, as indexes of their contents. Seats are in the order of the places.
    """

    def __init__(self, plan, seats, boxes, held):
        self.plan = plan
        self.seats = seats
        self.boxes = boxes
        self.held = held

    def new_box(self, contents):
        """Makes a box; its number."""
        self.boxes.append(contents)
        return len(self.boxes) - 1

    def seat_of(self, kind, value):
        """The box of a class value, found at the kind or at a base."""
        for spot in self.plan.lines[(kind, value)]:
            if self.seats[spot] != -1:
                return self.seats[spot]
        return None

    def set_value(self, kind, value, box):
        """The class value of this very kind becomes the box."""
        self.seats[self.plan.spots[("value", kind, value)]] = box


def new_state(plan):
    """The state of a new run."""
    seats, boxes = made(plan.library.kinds)
    return State(plan, [seats.get(place, -1) for place in plan.order], boxes, [])


def state_in(plan, world):
    """The state of a run that was put into a world."""
    seats, boxes = world
    held = [at for at, box in enumerate(boxes) if box[1] == "held"]
    return State(plan, list(seats), [contents for contents, _ in boxes], held)


def copied(state, held):
    """The same state for a caller that holds other boxes."""
    return State(state.plan, list(state.seats), list(state.boxes), list(held))


def world_of(state):
    """The world of a run."""
    numbers = {}
    for box in state.seats:
        if box != -1 and box not in numbers:
            numbers[box] = len(numbers)
    seats = tuple([numbers.get(box, -1) for box in state.seats])
    return seats, tuple([(state.boxes[box], "held" if box in state.held else "free") for box in numbers])


def view_of(state):
    """The contents of all held boxes, by their numbers."""
    return tuple([state.boxes[box] for box in state.held])


def held_in_world(state):
    """The numbers that the caller has for the boxes that it holds in the world, in the world's order."""
    found = []
    for box in state.seats:
        if box in state.held and state.held.index(box) not in found:
            found.append(state.held.index(box))
    return found


def may_be_unset(library):
    """For each place of a library whether it may have no box: a class value that is unset when the library is made."""
    seats, _ = made(library.kinds)
    return [place not in seats for place in library.places()]


def is_world_over(unset, marks, thing):
    """Whether any object is a world over places of which some may be unset."""
    if not isinstance(thing, tuple) or len(thing) != 2:
        return False
    seats, boxes = thing
    return are_seats(seats, unset) and are_boxes(boxes, seats, marks)


def are_seats(thing, unset):
    """Whether any object has a seat for each place, numbered in order, and -1 only where a place may be unset."""
    if not isinstance(thing, tuple) or len(thing) != len(unset):
        return False
    boxes = 0
    for seat, free in zip(thing, unset):
        if not is_integer(seat) or seat > boxes or seat < (-1 if free else 0):
            return False
        if seat == boxes:
            boxes += 1
    return True


def are_boxes(thing, seats, marks):
    """Whether any object has a box of a world for each number in the seats."""
    if not isinstance(thing, tuple) or len(thing) != max(seats, default=-1) + 1:
        return False
    return all([is_box(box, marks) for box in thing])


def is_box(thing, marks):
    """Whether any object is a box of a world."""
    if not isinstance(thing, tuple) or len(thing) != 2:
        return False
    return is_contents(thing[0], marks) and (thing[1] == "held" or thing[1] == "free")
