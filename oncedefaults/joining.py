"""Two runs that are used alike: their joint worlds, and the steps that tell them apart (26 to 29).

The runs are given by their states, or by their plans and a joint world. Callers hold as many boxes in the one as in
the other, and those with the same number count as one box.
"""

from oncedefaults.calling import MOST_STEPS, do_step
from oncedefaults.errors import CallError, TooMany
from oncedefaults.listing import steps_in
from oncedefaults.states import State, held_in_world, is_world_over, may_be_unset, state_in, view_of, world_of
from oncedefaults.steps import with_numbers


def together(one, other):
    """Both as one state, whose world is the joint world."""
    numbers = {box: one.held[number] for number, box in enumerate(other.held)}
    seats = [-1 if box == -1 else numbers.get(box, len(one.boxes) + box) for box in other.seats]
    return State(one.plan, one.seats + seats, one.boxes + other.boxes, list(one.held))


def joint_of(one, other):
    """The joint world of two states."""
    return world_of(together(one, other))


def states_in(first, second, joint):
    """The states of two runs that are put into a joint world."""
    seats, boxes = joint
    middle = len(first.order)
    return state_in(first, (seats[:middle], boxes)), state_in(second, (seats[middle:], boxes))


def do_in_both(one, other, step):
    """Does a step, any object, in both; whether it parts."""
    answer = do_step(one, step)
    return do_step(other, step) != answer or view_of(other) != view_of(one)


def joints_away(first, second, joint, callers):
    """A dict of the joint worlds one step away, each with the first step to it, and the first step that parts."""
    found = {}
    parting = None
    for step in steps_in(first, joint, callers):
        one, other = states_in(first, second, joint)
        if do_in_both(one, other, step):
            parting = parting or step
        else:
            behind = joint_of(one, other)
            if behind not in found:
                found[behind] = step
    return found, parting


class JointSearch:
    """All joint worlds to which steps that do not part lead from some of them, and a short way to a step that parts.

    Those to begin with are given by a dict, with the numbers of steps that were done before.
    """

    def __init__(self, first, second, callers, starts, most):
        self.ways = {joint: None for joint in starts}
        self.parting = None
        depths = {joint: starts[joint] for joint in starts}
        depth = 0
        while depth <= max(depths.values()):
            level = [joint for joint in depths if depths[joint] == depth]
            for joint in level:
                found, parting = joints_away(first, second, joint, callers)
                if self.parting is None and parting is not None:
                    self.parting = (joint, parting)
                # None of those to begin with is reached sooner so: earlier callers could have done these steps, too.
                for other in found:
                    if other not in depths:
                        depths[other] = depth + 1
                        self.ways[other] = (joint, found[other])
                check_joints(depths, most)
            depth += 1

    def parting_way(self):
        """Where a short way to a step that parts begins, and its steps, each for callers that were put there."""
        joint, step = self.parting
        steps = [step]
        while self.ways[joint] is not None:
            joint, step = self.ways[joint]
            steps.append(step)
        return joint, steps[::-1]


def check_joints(joints, most):
    """There are not too many joint worlds."""
    if len(joints) > most:
        raise TooMany("joints")


def joint_history(one, other, steps):
    """The history that two runs have in common, of steps that were each chosen in the joint world before it."""
    history = []
    for step in steps:
        same = with_numbers(step, held_in_world(together(one, other)), len(one.held))
        do_in_both(one, other, same)
        history.append(same)
    return tuple(history)


def is_telling(one, other, thing, callers):
    """Whether any object is a history of allowed steps of which the last one parts, and no other one does."""
    if not isinstance(thing, tuple) or len(thing) > MOST_STEPS:
        return False
    for at, step in enumerate(thing):
        if callers is not None and not callers.allows(step, len(one.held)):
            return False
        try:
            parting = do_in_both(one, other, step)
        except CallError:
            return False
        if parting:
            return at == len(thing) - 1
    return False


def are_joints(first, second, things):
    """Whether some objects are joint worlds."""
    unset = may_be_unset(first.library) + may_be_unset(second.library)
    middle = len(first.order)
    return all([is_world_over(unset, first.marks, thing) and are_apart(thing, middle) for thing in things])


def are_apart(joint, middle):
    """Whether the boxes that are free have seats of one side only; those of the second side begin in the middle."""
    seats, boxes = joint
    shared = [seat for seat in seats[:middle] if seat != -1 and seat in seats[middle:]]
    return all([boxes[seat][1] == "held" for seat in shared])


def are_closed_joints(first, second, thing, wanted, callers):
    """Whether any object is joint worlds, with the wanted ones, from which all allowed steps lead to one of them."""
    if not isinstance(thing, tuple) or not are_joints(first, second, thing):
        return False
    known = {joint: True for joint in thing}
    if not all([joint in known for joint in wanted]):
        return False
    for joint in known:
        found, parting = joints_away(first, second, joint, callers)
        if parting is not None or not all([other in known for other in found]):
            return False
    return True
