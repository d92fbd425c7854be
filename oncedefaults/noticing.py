"""Which calls notice what earlier calls did (22 to 24)."""

from oncedefaults.calling import do_history, do_step, report_at
from oncedefaults.errors import BadHistory, CallError
from oncedefaults.exploring import Search, are_closed, history_of
from oncedefaults.listing import plain_calls, steps_in
from oncedefaults.plans import Plan
from oncedefaults.states import new_state, state_in, view_of, world_of
from oncedefaults.steps import arguments_of, is_call
from oncedefaults.worlds import MOST_WORLDS, check_calls


def notice(library, call, *, callers=None, most=MOST_WORLDS):
    """The paper that tells behind which history a newcomer's call, any object, notices something, or that none is."""
    plan = Plan(library)
    wanted = report_at(new_state(plan), call)
    check_calls(plan)
    search = Search(plan, callers, most)
    for world in search.worlds:
        if report_at(state_in(plan, world), call) != wanted:
            return "after", history_of(plan, search.way_to(world))
    return "never", tuple(search.worlds)


def is_notice(library, call, thing, *, callers=None):
    """Whether any object is a right paper for a newcomer's call."""
    plan = Plan(library)
    report_at(new_state(plan), call)
    check_calls(plan)
    if not isinstance(thing, tuple) or len(thing) != 2:
        return False
    word, shown = thing
    if word == "after":
        return is_noticed(plan, shown, call, callers)
    return word == "never" and is_unnoticed(plan, shown, [call], callers)


def is_noticed(plan, history, call, callers):
    """Whether any two objects are a history of allowed steps and a newcomer's call that notices it."""
    state = new_state(plan)
    try:
        wanted = report_at(state, call)
    except CallError:
        return False
    try:
        do_history(state, history, callers)
    except BadHistory:
        return False
    return report_at(state, call) != wanted


def is_unnoticed(plan, worlds, calls, callers):
    """Whether any object is worlds that show that none of these calls notices anything."""
    if not are_closed(plan, worlds, callers):
        return False
    wanted = reports_of(new_state(plan), calls)
    return all([reports_of(state_in(plan, world), calls) == wanted for world in worlds])


def reports_of(state, calls):
    """A list of the reports of newcomers' calls."""
    return [report_at(state, call) for call in calls]


def first_noticed(plan, search, calls):
    """A short history with the first of these calls that notices it, None if none of them notices any history."""
    wanted = reports_of(new_state(plan), calls)
    for world in search.worlds:
        for call in changed(calls, wanted, reports_of(state_in(plan, world), calls)):
            return history_of(plan, search.way_to(world)), call
    return None


def changed(calls, before, behind):
    """The calls with other reports behind than before."""
    return [call for call, one, other in zip(calls, before, behind) if one != other]


def heard(library, *, callers=None):
    """A list of which sources are heard by which targets, each with a short history and a call that shows it."""
    plan = Plan(library)
    check_calls(plan)
    search = Search(plan, callers, MOST_WORLDS)
    calls = plain_calls(plan)
    reports = {world: reports_of(state_in(plan, world), calls) for world in search.worlds}
    found = {}
    for world in search.worlds:
        moves = moves_from(plan, world, callers)
        for source, other in moves:
            for call in changed(calls, reports[world], reports[other]):
                key = (source, (call[1], call[2]))
                if key not in found:
                    found[key] = (search.way_to(world) + [moves[(source, other)]], call)
    return [(*key, history_of(plan, found[key][0]), found[key][1]) for key in sorted(found)]


def moves_from(plan, world, callers):
    """The first steps from a world by their sources and the worlds to which they lead."""
    found = {}
    for step in steps_in(plan, world, callers):
        state = state_in(plan, world)
        do_step(state, step)
        key = (source_of(step), world_of(state))
        if key not in found:
            found[key] = step
    return found


def source_of(step):
    """What a step is heard as."""
    return ("call", step[1], step[2]) if is_call(step) else ("change", "", "")


def stirring(library, *, callers=None):
    """A list of the methods, with their kinds, that change what callers hold and did not pass; each with a history."""
    plan = Plan(library)
    check_calls(plan)
    search = Search(plan, callers, MOST_WORLDS)
    found = {}
    for world in search.worlds:
        for step in steps_in(plan, world, callers):
            if is_call(step) and (step[1], step[2]) not in found and is_stirred(plan, world, step):
                found[(step[1], step[2])] = search.way_to(world) + [step]
    return [(*key, history_of(plan, found[key])) for key in sorted(found)]


def is_stirred(plan, world, call):
    """Whether a call at a world changes a held box that is not passed to it."""
    state = state_in(plan, world)
    before = view_of(state)
    do_step(state, call)
    behind = view_of(state)
    passed = arguments_of(call)
    return any([behind[number] != before[number] and number not in passed for number in range(len(before))])
