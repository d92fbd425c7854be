"""What callers can tell apart: two libraries, or a new library and a used one (25 to 29)."""

from oncedefaults.calling import do_history
from oncedefaults.errors import BadHistory, BadWorld, UnlikeFaces
from oncedefaults.exploring import Search, history_of
from oncedefaults.joining import (
    JointSearch, are_closed_joints, are_joints, do_in_both, is_telling, joint_history, joint_of, states_in,
)
from oncedefaults.plans import Plan
from oncedefaults.runs import run_at
from oncedefaults.states import new_state, state_in, world_of
from oncedefaults.worlds import MOST_WORLDS, check_calls

MOST_JOINTS = 120


def plans_of(one, other):
    """The plans of two libraries that may be compared."""
    if one.face() != other.face():
        raise UnlikeFaces()
    return Plan(one), Plan(other)


def first_joint(one, other):
    """The joint world of two new runs."""
    first, second = plans_of(one, other)
    return joint_of(new_state(first), new_state(second))


def is_joint(one, other, thing):
    """Whether any object is a joint world of two libraries."""
    first, second = plans_of(one, other)
    return are_joints(first, second, [thing])


def states_put_into(one, other, joint):
    """The states of runs of two libraries that are put into a joint world, any object."""
    first, second = plans_of(one, other)
    if not are_joints(first, second, [joint]):
        raise BadWorld(joint)
    return states_in(first, second, joint)


def sides(one, other, joint):
    """Two runs that are put into a joint world, any object."""
    left, right = states_put_into(one, other, joint)
    return run_at(left), run_at(right)


def joint_after(one, other, joint, step):
    """The joint world to which a step, any object, leads; None if it parts."""
    left, right = states_put_into(one, other, joint)
    if do_in_both(left, right, step):
        return None
    return joint_of(left, right)


def compare(one, other, *, callers=None, most=2 * MOST_WORLDS):
    """The paper that tells by which history callers tell two libraries apart, or that none does."""
    first, second = plans_of(one, other)
    check_calls(first)
    start = joint_of(new_state(first), new_state(second))
    search = JointSearch(first, second, callers, {start: 0}, most)
    if search.parting is None:
        return "alike", tuple(sorted(search.ways))
    _, steps = search.parting_way()
    return "apart", joint_history(new_state(first), new_state(second), steps)


def is_comparison(one, other, thing, *, callers=None):
    """Whether any object is a right paper for two libraries."""
    first, second = plans_of(one, other)
    check_calls(first)
    if not isinstance(thing, tuple) or len(thing) != 2:
        return False
    word, shown = thing
    if word == "apart":
        return is_telling(new_state(first), new_state(second), shown, callers)
    start = joint_of(new_state(first), new_state(second))
    return word == "alike" and are_closed_joints(first, second, shown, [start], callers)


def alike(one, other, *, callers=None, most=2 * MOST_WORLDS):
    """Whether two libraries are alike for callers."""
    return compare(one, other, callers=callers, most=most)[0] == "alike"


def freed(world):
    """The world with all boxes free."""
    seats, boxes = world
    return seats, tuple([(contents, "free") for contents, _ in boxes])


def later_joints(plan, search):
    """The later joint worlds, each with the first world of the table that it is of."""
    found = {}
    for world in search.worlds:
        joint = joint_of(new_state(plan), state_in(plan, freed(world)))
        if joint not in found:
            found[joint] = world
    return found


def newcomers(library, *, callers=None, most=MOST_WORLDS, joints=MOST_JOINTS):
    """The paper that tells how a newcomer finds out that the library is not new, or that it never does."""
    plan = Plan(library)
    check_calls(plan)
    table = Search(plan, callers, most)
    later = later_joints(plan, table)
    starts = {joint: table.depths[later[joint]] for joint in later}
    search = JointSearch(plan, plan, callers, starts, joints)
    if search.parting is None:
        return "blind", tuple(sorted(search.ways))
    start, steps = search.parting_way()
    one, other = states_in(plan, plan, start)
    return "found", history_of(plan, table.way_to(later[start])), joint_history(one, other, steps)


def is_newcomers(library, thing, *, callers=None):
    """Whether any object is a right paper for newcomers."""
    plan = Plan(library)
    check_calls(plan)
    table = Search(plan, callers, MOST_WORLDS)
    if not isinstance(thing, tuple) or len(thing) < 2:
        return False
    if thing[0] == "found":
        return len(thing) == 3 and is_found(plan, thing[1], thing[2], callers)
    return thing[0] == "blind" and len(thing) == 2 and is_blind(plan, table, thing[1], callers)


def is_found(plan, history, later, callers):
    """Whether any two objects are histories by the second of which a newcomer finds out behind the first one."""
    state = new_state(plan)
    try:
        do_history(state, history, callers)
    except BadHistory:
        return False
    return is_telling(new_state(plan), state_in(plan, freed(world_of(state))), later, callers)


def is_blind(plan, table, joints, callers):
    """Whether any object is joint worlds that show that no newcomer finds out."""
    return are_closed_joints(plan, plan, joints, list(later_joints(plan, table)), callers)
