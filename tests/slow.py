"""The questions of stages 6 to 8, answered slowly: by real Python classes, over real histories, with forms written once more."""

import itertools

from tests import oracle
from tests.oracle import PythonRun

ALL = {"methods": None, "changes": True, "passes": True}
MOST_STEPS = 400


def options_of(callers):
    return dict(ALL) if callers is None else {name: getattr(callers, name) for name in ALL}


def is_allowed(step, held, callers):
    """Whether a step that can be done is allowed."""
    options = options_of(callers)
    if step[0] != "call":
        return options["changes"]
    if options["methods"] is not None and step[1:3] not in options["methods"]:
        return False
    return options["passes"] or oracle.is_free_of_held(step, held)


def steps_at(library, held, callers):
    return list(oracle.steps_at(library, held, **options_of(callers)))


def put_into(library, world):
    return PythonRun(library).put_into(world)


def report(library, world, call):
    return put_into(library, world).report(call)


def are_tuples(thing, *lengths):
    return type(thing) is tuple and len(thing) in lengths


def is_world(seats, unset, boxes, marks):
    """Whether these are seats and boxes of places, of which some may be unset."""
    if type(seats) is not tuple or len(seats) != len(unset) or type(boxes) is not tuple:
        return False
    if any(type(seat) is not int for seat in seats) or any(seat == -1 and not may for seat, may in zip(seats, unset)):
        return False
    met = list(dict.fromkeys(seat for seat in seats if seat != -1))
    if met != list(range(len(boxes))):
        return False
    return all(
        are_tuples(box, 2) and oracle.are_contents(box[0], marks) and type(box[1]) is str and box[1] in ("held", "free") for box in boxes
    )


def may_be_unset(library):
    run = PythonRun(library)
    return [run.at(place) is None for place in oracle.places(library)]


def is_world_of(library, thing):
    return are_tuples(thing, 2) and is_world(thing[0], may_be_unset(library), thing[1], library.marks)


def history_done(library, history, callers, run=None):
    """A run behind any object, None if it is no history of allowed steps."""
    run = run or PythonRun(library)
    if type(history) is not tuple or len(history) > MOST_STEPS:
        return None
    for step in history:
        if not run.can_do(step) or not is_allowed(step, len(run.held), callers):
            return None
        run.step(step)
    return run


def worlds_away(library, world, callers):
    held = len(put_into(library, world).held)
    found = set()
    for step in steps_at(library, held, callers):
        run = put_into(library, world)
        run.step(step)
        found.add(run.world())
    return found


def are_closed_worlds(library, worlds, callers):
    if type(worlds) is not tuple or not all(is_world_of(library, world) for world in worlds):
        return False
    if PythonRun(library).world() not in worlds:
        return False
    return all(other in worlds for world in set(worlds) for other in worlds_away(library, world, callers))


def is_notice(library, call, thing, callers=None):
    new = PythonRun(library).report(call)
    if not are_tuples(thing, 2):
        return False
    if thing[0] == "after":
        run = history_done(library, thing[1], callers)
        return run is not None and run.report(call) != new
    if thing[0] != "never" or not are_closed_worlds(library, thing[1], callers):
        return False
    return all(report(library, world, call) == new for world in set(thing[1]))


# Two runs -----------------------------------------------------------------------------------------------------------------


def index_of(box, boxes):
    for at, other in enumerate(boxes):
        if box is other:
            return at
    return None


def joint(one, other):
    names, seats, boxes = [], [], []
    for side, run in enumerate((one, other)):
        for place in oracle.places(run.library):
            box = run.at(place)
            if box is None:
                seats.append(-1)
                continue
            number = index_of(box, run.held)
            name = (side, id(box)) if number is None else ("number", number)
            if name not in names:
                names.append(name)
                boxes.append((box.contents(), "free" if number is None else "held"))
            seats.append(names.index(name))
    return tuple(seats), tuple(boxes)


def parts(one, other, step):
    """Does a step in both; whether it parts."""
    left, right = one.step(step), other.step(step)
    return left != right or one.view() != other.view()


def is_joint(one, other, thing):
    """Whether any object is a joint world of two libraries."""
    if not are_tuples(thing, 2):
        return False
    left, right = may_be_unset(one), may_be_unset(other)
    if not is_world(thing[0], left + right, thing[1], one.marks):
        return False
    shared = set(thing[0][:len(left)]) & set(thing[0][len(left):]) - {-1}
    return all(thing[1][at][1] == "held" for at in shared)


def put_into_joint(one, other, thing):
    """Two runs that are put into a joint world; they hold all boxes that are held there."""
    seats, boxes = thing
    middle = len(oracle.places(one))
    return put_into(one, (seats[:middle], boxes)), put_into(other, (seats[middle:], boxes))


def joints_away(one, other, thing, callers):
    """The joint worlds one step away, and whether some step parts."""
    held = len([word for _, word in thing[1] if word == "held"])
    found, parted = set(), False
    for step in steps_at(one, held, callers):
        left, right = put_into_joint(one, other, thing)
        if parts(left, right, step):
            parted = True
        else:
            found.add(joint(left, right))
    return found, parted


def are_closed_joints(one, other, joints, wanted, callers):
    if type(joints) is not tuple or not all(is_joint(one, other, thing) for thing in joints):
        return False
    if not all(thing in joints for thing in wanted):
        return False
    for thing in set(joints):
        found, parted = joints_away(one, other, thing, callers)
        if parted or not all(later in joints for later in found):
            return False
    return True


def tells_apart(one, other, history, callers):
    """Whether any object is a history of allowed steps of two real runs of which the last one parts, and no other one."""
    if type(history) is not tuple or not 1 <= len(history) <= MOST_STEPS:
        return False
    for at, step in enumerate(history):
        if not one.can_do(step) or not other.can_do(step) or not is_allowed(step, len(one.held), callers):
            return False
        if parts(one, other, step):
            return at == len(history) - 1
    return False


def is_comparison(one, other, thing, callers=None):
    if not are_tuples(thing, 2):
        return False
    if thing[0] == "apart":
        return tells_apart(PythonRun(one), PythonRun(other), thing[1], callers)
    return thing[0] == "alike" and are_closed_joints(one, other, thing[1], [joint(PythonRun(one), PythonRun(other))], callers)


def reached_joints(one, other, starts, callers, most):
    """All joint worlds reached by steps that do not part; None if there are more than most."""
    found = dict.fromkeys(starts)
    todo = list(found)
    while todo and len(found) <= most:
        for later in joints_away(one, other, todo.pop(), callers)[0]:
            if later not in found:
                found[later] = None
                todo.append(later)
    return sorted(found) if len(found) <= most else None


def fewest_parting_steps(make, library, callers, most):
    """How many steps of real runs, which make makes anew, part them; None if not so few do. Joint worlds are visited once."""
    level, seen = [()], {joint(*make())}
    for depth in range(1, most + 1):
        later = []
        for history in level:
            for step in steps_at(library, len(runs_behind(make, history)[0].held), callers):
                one, other = runs_behind(make, history)
                if parts(one, other, step):
                    return depth
                if joint(one, other) not in seen:
                    seen.add(joint(one, other))
                    later.append((*history, step))
        level = later
    return None


def runs_behind(make, history):
    one, other = make()
    for step in history:
        one.step(step)
        other.step(step)
    return one, other


# Newcomers ----------------------------------------------------------------------------------------------------------------


def freed(world):
    return world[0], tuple((contents, "free") for contents, _ in world[1])


def later_joints(library, worlds):
    return [joint(PythonRun(library), put_into(library, freed(world))) for world in worlds]


def is_found(library, history, later, callers):
    run = history_done(library, history, callers)
    return run is not None and tells_apart(PythonRun(library), put_into(library, freed(run.world())), later, callers)


def is_newcomers(library, thing, worlds, callers=None):
    """Worlds are those of the table."""
    if are_tuples(thing, 3):
        return thing[0] == "found" and is_found(library, thing[1], thing[2], callers)
    return are_tuples(thing, 2) and thing[0] == "blind" and is_blind(library, thing[1], worlds, callers)


def is_blind(library, joints, worlds, callers):
    return are_closed_joints(library, library, joints, later_joints(library, worlds), callers)


# Noticing -----------------------------------------------------------------------------------------------------------------


def source_of(step):
    return step[:3] if step[0] == "call" else ("change", "", "")


class Reports:
    """The reports of all plain calls in worlds, each asked once."""

    def __init__(self, library):
        self.library = library
        self.calls = list(oracle.calls_at(library, 0))
        self.found = {}

    def at(self, world):
        if world not in self.found:
            self.found[world] = [report(self.library, world, call) for call in self.calls]
        return self.found[world]

    def changed(self, one, other):
        return [call for call, left, right in zip(self.calls, self.at(one), self.at(other)) if left != right]


def heard(library, table, callers):
    """By source and target the least number of steps; the table is one of oracle."""
    order, histories, _ = table
    reports = Reports(library)
    found = {}
    for world in order:
        for step in steps_at(library, len(oracle.run_behind(library, histories[world]).held), callers):
            run = oracle.run_behind(library, (*histories[world], step))
            for call in reports.changed(world, run.world()):
                found.setdefault((source_of(step), call[1:3]), len(histories[world]) + 1)
    return found


def is_heard(library, source, target, history, call, callers):
    """Whether the history shows with the call that the source is heard by the target."""
    run, before = history_done(library, history, callers), history_done(library, history[:-1], callers)
    right = run is not None and len(history) > 0 and source_of(history[-1]) == source and call[1:3] == target
    return right and before.report(call) != run.report(call)


def is_stirring(library, history):
    """Whether the last step of a history is a call that changes a held box that is not passed to it."""
    run = oracle.run_behind(library, history[:-1])
    boxes, before, step = list(run.held), run.view(), history[-1]
    if step[0] != "call":
        return False
    passed = [*step[3], *[argument for _, argument in step[4]]]
    run.step(step)
    return any(box.contents() != before[at] and at not in passed for at, box in enumerate(boxes))


def stirring(library, table, callers):
    """By kind and method the least number of steps."""
    order, histories, _ = table
    found = {}
    for world in order:
        for step in steps_at(library, len(oracle.run_behind(library, histories[world]).held), callers):
            history = (*histories[world], step)
            if step[0] == "call" and step[1:3] not in found and is_stirring(library, history):
                found[step[1:3]] = len(history)
    return found


# Repairs ------------------------------------------------------------------------------------------------------------------


def choices(library):
    defaults = [place for place in oracle.places(library) if place[0] == "default"]
    return [choice for many in range(len(defaults) + 1) for choice in itertools.combinations(defaults, many)]


def table(library, callers, most):
    return oracle.table(library, most, **options_of(callers))


def fewest_steps_to_find_out(library, found, callers, most):
    """How many steps of two histories let a newcomer find out, None if it never does; found is a table by oracle."""
    order, histories, _ = found
    totals = []
    for world in order:
        steps = fewest_parting_steps(lambda: (PythonRun(library), put_into(library, freed(world))), library, callers, most)
        if steps is not None:
            totals.append(steps + len(histories[world]))
    return min(totals) if totals else None


def is_good(version, by, callers, most):
    """Whether nothing is noticed, or no newcomer finds out; None if there are too many worlds or joint worlds for this search."""
    found = table(version, callers, most)
    if found is None:
        return None
    if by == "calls":
        reports = Reports(version)
        return all(not reports.changed(found[0][0], world) for world in found[0])
    joints = reached_joints(version, version, later_joints(version, found[0]), callers, 3 * most)
    if joints is None:
        return None
    return not any(joints_away(version, version, thing, callers)[1] for thing in joints)


def is_fewest(library, thing, by, callers, most):
    """Most bounds the worlds of the chosen version's table."""
    every = choices(library)
    if are_tuples(thing, 4) and thing[0] == "anew" and type(thing[1]) is tuple and thing[1] in every:
        version = library.version(thing[1])
        return is_inside(version, thing[2], by, callers, most) and are_others(library, every[:every.index(thing[1])], thing[3], by, callers)
    return are_tuples(thing, 2) and thing[0] == "none" and are_others(library, every, thing[1], by, callers)


def is_inside(version, inside, by, callers, most):
    if by == "newcomers":
        return is_blind(version, inside, table(version, callers, most)[0], callers)
    if not are_closed_worlds(version, inside, callers):
        return False
    reports = Reports(version)
    return all(not reports.changed(PythonRun(version).world(), world) for world in inside)


def are_others(library, earlier, others, by, callers):
    if not are_tuples(others, len(earlier)):
        return False
    return all(is_other(library, choice, other, by, callers) for choice, other in zip(earlier, others))


def is_other(library, choice, other, by, callers):
    if not are_tuples(other, 3) or type(other[0]) is not tuple or other[0] != choice:
        return False
    version = library.version(choice)
    if by == "newcomers":
        return is_found(version, other[1], other[2], callers)
    run = history_done(version, other[1], callers)
    new = PythonRun(version)
    if run is None or type(other[2]) is not tuple or other[2][:1] != ("call",) or not new.can_do(other[2]):
        return False
    return run.report(other[2]) != new.report(other[2])
