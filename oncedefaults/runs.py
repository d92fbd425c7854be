"""Runs of libraries, and all plain calls (13 to 18)."""

from oncedefaults.calling import do_history, do_step, report_at
from oncedefaults.errors import BadWorld
from oncedefaults.listing import calls_for
from oncedefaults.plans import Plan
from oncedefaults.states import new_state, state_in, view_of, world_of
from oncedefaults.worlds import is_world


class Run:
    """A library in use, from its beginning or from a world on."""

    def __init__(self, library):
        self.library = library
        self._state = new_state(Plan(library))
        self._done = []

    @classmethod
    def behind(cls, library, history):
        """A run behind a history, any object."""
        run = cls(library)
        do_history(run._state, history, None)
        run._done = list(history)
        return run

    @classmethod
    def put_into(cls, library, world):
        """A run that is put into a world, any object."""
        if not is_world(library, world):
            raise BadWorld(world)
        run = cls(library)
        run._state = state_in(Plan(library), world)
        return run

    @property
    def view(self):
        """The contents of all held boxes, by their numbers."""
        return view_of(self._state)

    @property
    def world(self):
        """Which box each place has, what these boxes contain, and which of them the caller holds."""
        return world_of(self._state)

    def __len__(self):
        return len(self._done)

    def step(self, step):
        """Does a step, any object; its answer."""
        answer = do_step(self._state, step)
        self._done.append(step)
        return answer

    def call(self, kind, method, *args, **options):
        """Does a call; its answer."""
        return self.step(("call", kind, method, args, tuple(options.items())))

    def put(self, k, mark):
        """Adds a mark to a held box."""
        return self.step(("put", k, mark))

    def take(self, k, mark):
        """Removes a mark from a held box."""
        return self.step(("take", k, mark))

    def report(self, call):
        """The report of a newcomer's call, any object, as if made now."""
        return report_at(self._state, call)


def run_at(state):
    """A run that stands there."""
    run = Run(state.plan.library)
    run._state = state
    return run


def calls_of(library):
    """Yields all plain calls, in order."""
    plan = Plan(library)
    yield from calls_for(plan, 0, None)
