"""The worlds of all histories of allowed steps, and the ways to them (20, 21)."""

from oncedefaults.calling import do_step
from oncedefaults.errors import TooMany
from oncedefaults.listing import steps_in
from oncedefaults.states import held_in_world, is_world_over, may_be_unset, new_state, state_in, world_of
from oncedefaults.steps import with_numbers


class Search:
    """The worlds in order, and by worlds their depths, the worlds one step away, and a last step on a short way.

    The way of a world is the world before it with a step there; None for the first one.
    """

    def __init__(self, plan, callers, most):
        start = world_of(new_state(plan))
        self.worlds = []
        self.depths = {start: 0}
        self.next_worlds = {}
        self.ways = {start: None}
        level = [start]
        while len(level) > 0:
            self.worlds.extend(level)
            found = []
            for world in level:
                steps = steps_away(plan, world, callers)
                self.next_worlds[world] = list(steps)
                for other in steps:
                    if other not in self.depths:
                        self.depths[other] = self.depths[world] + 1
                        self.ways[other] = (world, steps[other])
                        found.append(other)
                if len(self.depths) > most:
                    raise TooMany("worlds")
            level = sorted(found)

    def way_to(self, world):
        """The steps on a short way from the first world, each for callers that were put into the world before it."""
        steps = []
        while self.ways[world] is not None:
            world, step = self.ways[world]
            steps.append(step)
        return steps[::-1]


def steps_away(plan, world, callers):
    """The worlds one step away from a world: a dict with the first step that leads to each."""
    found = {}
    for step in steps_in(plan, world, callers):
        state = state_in(plan, world)
        do_step(state, step)
        other = world_of(state)
        if other not in found:
            found[other] = step
    return found


def are_closed(plan, thing, callers):
    """Whether any object is worlds with the first one and all that are one step away from one of them."""
    unset = may_be_unset(plan.library)
    if not isinstance(thing, tuple) or not all([is_world_over(unset, plan.marks, world) for world in thing]):
        return False
    known = {world: True for world in thing}
    if world_of(new_state(plan)) not in known:
        return False
    for world in known:
        if not all([other in known for other in steps_away(plan, world, callers)]):
            return False
    return True


def history_of(plan, steps):
    """A history from the beginning of a run, of steps that were each chosen in the world before it."""
    state = new_state(plan)
    history = []
    for step in steps:
        same = with_numbers(step, held_in_world(state), len(state.held))
        do_step(state, same)
        history.append(same)
    return tuple(history)
