"""Which defaults must be made anew so that nothing is noticed (30 to 33)."""

from oncedefaults.errors import TooMany
from oncedefaults.exploring import Search
from oncedefaults.joints import alike, is_blind, is_found, newcomers
from oncedefaults.listing import plain_calls
from oncedefaults.noticing import first_noticed, is_noticed, is_unnoticed
from oncedefaults.plans import Plan
from oncedefaults.worlds import MOST_WORLDS, check_calls

MOST_DEFAULTS = 3


def choices(library):
    """A list of all choices of defaults, in order."""
    defaults = library.defaults()
    if len(defaults) > MOST_DEFAULTS:
        raise TooMany("defaults")
    return [choice for count in range(len(defaults) + 1) for choice in chosen(defaults, count)]


def chosen(places, count):
    """All choices of so many of the places, in order."""
    if count == 0:
        return [()]
    return [
        (place, *rest) for at, place in enumerate(places) for rest in chosen(places[at + 1:], count - 1)
    ]


def looked_at(version, by, callers, most, joints):
    """What shows that a version is good, as a tuple of one, or that it is not, as a tuple of two."""
    if by == "newcomers":
        return newcomers(version, callers=callers, most=most, joints=joints)[1:]
    plan = Plan(version)
    check_calls(plan)
    search = Search(plan, callers, most)
    shown = first_noticed(plan, search, plain_calls(plan))
    return (tuple(search.worlds),) if shown is None else shown


def fewest(library, *, by="calls", callers=None, most=MOST_WORLDS, joints=2 * MOST_WORLDS):
    """The paper that tells the first good choice, or that there is none."""
    others = []
    for choice in choices(library):
        shown = looked_at(library.version(choice), by, callers, most, joints)
        if len(shown) == 1:
            return "anew", choice, shown[0], tuple(others)
        others.append((choice, *shown))
    return "none", tuple(others)


def is_fewest(library, thing, *, by="calls", callers=None):
    """Whether any object is a right paper for the fewest defaults to be made anew."""
    every = choices(library)
    check_calls(Plan(library))
    if not isinstance(thing, tuple):
        return False
    if len(thing) == 4 and thing[0] == "anew" and thing[1] in every:
        earlier = every[:every.index(thing[1])]
        is_shown = is_good(library.version(thing[1]), thing[2], by, callers)
        return is_shown and are_others(library, earlier, thing[3], by, callers)
    return len(thing) == 2 and thing[0] == "none" and are_others(library, every, thing[1], by, callers)


def is_good(version, inside, by, callers):
    """Whether any object shows that a version is good."""
    plan = Plan(version)
    if by == "newcomers":
        return is_blind(plan, Search(plan, callers, MOST_WORLDS), inside, callers)
    return is_unnoticed(plan, inside, plain_calls(plan), callers)


def are_others(library, earlier, others, by, callers):
    """Whether any object shows that none of the earlier choices is good."""
    if not isinstance(others, tuple) or len(others) != len(earlier):
        return False
    return all([is_other(library, choice, other, by, callers) for choice, other in zip(earlier, others)])


def is_other(library, choice, other, by, callers):
    """Whether any object shows that a choice is not good."""
    if not isinstance(other, tuple) or len(other) != 3 or other[0] != choice:
        return False
    plan = Plan(library.version(choice))
    if by == "newcomers":
        return is_found(plan, other[1], other[2], callers)
    return is_noticed(plan, other[1], other[2], callers)


def least_choices(library, *, by="calls", callers=None, most=MOST_WORLDS, joints=2 * MOST_WORLDS):
    """A list of the good choices that contain no other good one, in order."""
    good = [
        choice for choice in choices(library)
        if len(looked_at(library.version(choice), by, callers, most, joints)) == 1
    ]
    return [choice for choice in good if len([other for other in good if is_within(other, choice)]) == 1]


def is_within(small, large):
    """Whether the one choice contains the other one."""
    return all([place in large for place in small])


def classes(library, *, callers=None, joints=2 * MOST_WORLDS):
    """A list of lists of the choices whose versions are alike."""
    found = []
    for choice in choices(library):
        version = library.version(choice)
        same = first_alike(library, found, version, callers, joints)
        if same is None:
            found.append([choice])
        else:
            same.append(choice)
    return found


def first_alike(library, found, version, callers, joints):
    """The first list of choices to the first of which a version is alike, None if there is none."""
    for group in found:
        if alike(library.version(group[0]), version, callers=callers, most=joints):
            return group
    return None
