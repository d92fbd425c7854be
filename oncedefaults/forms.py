"""The forms of defaults, makings, rows, tests and results (5 to 8).

A form is a tuple of the word that stands first and of the sorts of the parts behind it. Of the sorts, "used" and
"assigned" are box variables, "item" is one mark or parameter, "items" are several, and "kind" or "owner" stands
right before the "value" that it is asked for.
"""

from oncedefaults.words import is_items, is_name, is_owner

MAKINGS = (("once", "items"), ("early", "kind", "value"))
MARK_DEFAULTS = (("mark", "item"),)
BOX_DEFAULTS = (("once", "items"), ("early", "kind", "value"), ("anew", "items"), ("late", "owner", "value"))
TESTS = (("in", "item", "used"), ("equal", "used", "used"), ("is", "used", "used"))
PLAIN_ROWS = (
    ("new", "assigned", "items"),
    ("name", "assigned", "used"),
    ("copy", "assigned", "used"),
    ("get", "assigned", "owner", "value"),
    ("set", "owner", "value", "used"),
    ("add", "used", "items"),
    ("drop", "used", "items"),
    ("grow", "owner", "value", "items"),
    ("shrink", "owner", "value", "items"),
)
BRANCHES = (("if", "test", "plain"), ("unless", "test", "plain"))
ROWS = PLAIN_ROWS + BRANCHES
RESULTS = (("none",), ("box", "used"), ("copy", "used"), ("test", "test"))


def form_of(thing, forms):
    """The form with the word and the length of any object, None if there is none."""
    if not isinstance(thing, tuple):
        return None
    for form in forms:
        if len(thing) == len(form) and thing[0] == form[0]:
            return form
    return None


def is_of_sort(part, sort):
    """Whether any object is as a part of this sort must be."""
    if sort == "items":
        return is_items(part)
    if sort == "owner":
        return is_owner(part)
    if sort == "test":
        return has_form(part, TESTS)
    if sort == "plain":
        return has_form(part, PLAIN_ROWS)
    return is_name(part)


def has_form(thing, forms):
    """Whether any object has one of these forms."""
    form = form_of(thing, forms)
    if form is None:
        return False
    return all([is_of_sort(part, sort) for part, sort in zip(thing[1:], form[1:])])


def is_default(thing, holds):
    """Whether any object is a default of a parameter that holds a mark, or a box."""
    if holds == "mark":
        return has_form(thing, MARK_DEFAULTS)
    return has_form(thing, BOX_DEFAULTS)


def is_shared(default):
    """Whether a default is made once, so that all calls share its box."""
    return default is not None and (default[0] == "once" or default[0] == "early")


def parts_of(thing, forms):
    """The parts of something that has one of these forms, as pairs (sort, part), in the order in which they stand."""
    form = form_of(thing, forms)
    found = []
    for part, sort in zip(thing[1:], form[1:]):
        if sort == "test":
            found.extend(parts_of(part, TESTS))
        elif sort == "plain":
            found.extend(parts_of(part, PLAIN_ROWS))
        else:
            found.append((sort, part))
    return found


def is_value(thing):
    """Whether any object is a value of a kind in form: a name and a making."""
    return isinstance(thing, tuple) and len(thing) == 2 and is_name(thing[0]) and has_form(thing[1], MAKINGS)


def first_bad_value(values):
    """The index of the first value without the form, or with the name of an earlier one; None if there is none."""
    for at, value in enumerate(values):
        if not is_value(value) or value[0] in [name for name, _ in values[:at]]:
            return at
    return None


def first_bad_row(params, rows, returns):
    """The index of the first row, or of the result behind them, that breaks 6 or 7; None if there is none."""
    fixed = [param.name for param in params if param.holds == "mark"]
    usable = [param.name for param in params if param.holds == "box"]
    for at, row in enumerate(rows):
        if not has_form(row, ROWS) or not keeps_to(row, fixed, usable):
            return at
        usable = usable + [part for sort, part in parts_of(row, ROWS) if sort == "assigned"]
    if not has_form(returns, RESULTS) or not uses_only(parts_of(returns, RESULTS), usable):
        return len(rows)
    return None


def keeps_to(row, fixed, usable):
    """Whether a row uses only what is usable, and assigns nothing fixed; behind a test nothing that is new."""
    parts = parts_of(row, ROWS)
    assigned = [part for sort, part in parts if sort == "assigned"]
    if form_of(row, BRANCHES) is not None and not all([name in usable for name in assigned]):
        return False
    return uses_only(parts, usable) and not any([name in fixed for name in assigned])


def uses_only(parts, usable):
    """Whether all box variables that are used are usable."""
    return all([part in usable for sort, part in parts if sort == "used"])
