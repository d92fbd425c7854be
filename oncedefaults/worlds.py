"""Worlds, callers and tables (17 to 21)."""

from oncedefaults.calling import do_history, report_at
from oncedefaults.errors import BadCallers, BadWorld, NoWorld, TooMany
from oncedefaults.exploring import Search, history_of
from oncedefaults.listing import count_calls, steps_in
from oncedefaults.plans import Plan
from oncedefaults.states import is_world_over, may_be_unset, new_state, state_in, world_of
from oncedefaults.steps import arguments_of, is_call, is_change
from oncedefaults.words import is_name, is_number_below

MOST_CALLS = 60
MOST_WORLDS = 60


def is_world(library, thing):
    """Whether any object is a world of the library."""
    return is_world_over(may_be_unset(library), library.marks, thing)


def first_world(library):
    """The world of a new run."""
    return world_of(new_state(Plan(library)))


def steps_at(library, world, *, callers=None):
    """Yields the steps at a world, in order."""
    if not is_world(library, world):
        raise BadWorld(world)
    plan = Plan(library)
    yield from steps_in(plan, world, callers)


def report(library, call, *, world=None):
    """The report of a newcomer's call in a run that is put into a world, a new one for None."""
    plan = Plan(library)
    if world is None:
        return report_at(new_state(plan), call)
    if not is_world(library, world):
        raise BadWorld(world)
    return report_at(state_in(plan, world), call)


def check_calls(plan):
    """There are at most as many plain calls as questions about all callers allow."""
    if count_calls(plan) > MOST_CALLS:
        raise TooMany("calls")


def are_pairs(thing):
    """Whether any object is a tuple of pairs of names, no two equal."""
    if not isinstance(thing, tuple) or not all([is_pair(part) for part in thing]):
        return False
    return len(set(thing)) == len(thing)


def is_pair(thing):
    """Whether any object is a tuple of two names."""
    return isinstance(thing, tuple) and len(thing) == 2 and is_name(thing[0]) and is_name(thing[1])


class Callers:
    """Which steps are allowed: calls of some methods or all, puts and takes, and passing boxes that are held."""

    def __init__(self, methods=None, *, changes=True, passes=True):
        if methods is not None and not are_pairs(methods):
            raise BadCallers("methods")
        if not isinstance(changes, bool):
            raise BadCallers("changes")
        if not isinstance(passes, bool):
            raise BadCallers("passes")
        self.methods = methods
        self.changes = changes
        self.passes = passes

    def __eq__(self, other):
        return (isinstance(other, Callers) and self.methods == other.methods
                and self.changes == other.changes and self.passes == other.passes)

    def allows(self, step, held):
        """Whether a step, any object, is allowed for callers that hold so many boxes."""
        if is_change(step):
            return self.changes
        if not is_call(step):
            return False
        if self.methods is not None and (step[1], step[2]) not in self.methods:
            return False
        return self.passes or not any([is_number_below(argument, held) for argument in arguments_of(step)])


class Table:
    """The worlds of all histories of allowed steps of a library."""

    def __init__(self, library, *, callers=None, most=MOST_WORLDS):
        plan = Plan(library)
        check_calls(plan)
        self._plan = plan
        self._callers = callers
        self._search = Search(plan, callers, most)
        self._worlds = tuple(self._search.worlds)
        self._indexes = {world: at for at, world in enumerate(self._worlds)}

    def __len__(self):
        return len(self._worlds)

    def __iter__(self):
        return iter(self._worlds)

    def __getitem__(self, at):
        if not is_number_below(at, len(self._worlds)):
            raise NoWorld(at)
        return self._worlds[at]

    def __contains__(self, x):
        # Only a world is surely a key: what is none may contain lists, or True in the place of 1.
        return is_world(self._plan.library, x) and x in self._indexes

    def __call__(self, history):
        state = new_state(self._plan)
        do_history(state, history, self._callers)
        return self._indexes[world_of(state)]

    def depth(self, index):
        """The least number of steps of a history of allowed steps to a world."""
        return self._search.depths[self[index]]

    def after(self, index):
        """A list of the indexes of the worlds one step away."""
        return sorted([self._indexes[world] for world in self._search.next_worlds[self[index]]])

    def history(self, index):
        """A history of as few allowed steps as possible behind which a run has a world."""
        return history_of(self._plan, self._search.way_to(self[index]))

    def reports(self, call):
        """A list of the reports of a newcomer's call, any object, in the worlds."""
        return [report_at(state_in(self._plan, world), call) for world in self._worlds]
