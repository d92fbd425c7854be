"""The plain calls of a library, and the steps that callers may do at a world (16, 19, 20).

Callers are None where all steps are allowed.
"""


class Hand:
    """What callers may pass for a box: any contents, and the numbers from first on of the boxes that they hold."""

    def __init__(self, plan, held, callers):
        self.marks = plan.marks
        self.contents = plan.contents
        self.held = held
        self.first = 0 if callers is None or callers.passes else held

    def ways_to_fill(self, param, news):
        """The choices for a parameter behind so many new boxes; None is to leave it out."""
        ways = [] if param.default is None else [None]
        if param.holds == "mark":
            return ways + list(self.marks)
        return ways + self.contents + list(range(self.first, self.held + news))


def fillings(params, hand, news):
    """All choices for the parameters, as tuples, in order; so many new boxes are written before."""
    if len(params) == 0:
        yield ()
        return
    others = params[1:]
    for way in hand.ways_to_fill(params[0], news):
        later = news + 1 if isinstance(way, tuple) else news
        for rest in fillings(others, hand, later):
            yield (way, *rest)


def plain_call(kind, method, filling):
    """The call with these choices: by position what stands before the first parameter left out, if not named."""
    args = []
    options = []
    by_name = False
    for param, way in zip(method.params, filling):
        by_name = by_name or param.named or way is None
        if way is None:
            continue
        if by_name:
            options.append((param.name, way))
        else:
            args.append(way)
    return "call", kind, method.name, tuple(args), tuple(options)


def calls_for(plan, held, callers):
    """The allowed calls of callers that hold so many boxes, in order."""
    hand = Hand(plan, held, callers)
    for kind, name in plan.homes:
        if callers is None or callers.methods is None or (kind, name) in callers.methods:
            _, method = plan.homes[(kind, name)]
            params = method.params
            for filling in fillings(params, hand, 0):
                yield plain_call(kind, method, filling)


def plain_calls(plan):
    """A list of all plain calls, in order."""
    return list(calls_for(plan, 0, None))


def steps_in(plan, world, callers):
    """The steps at a world, in order."""
    held = len([box for box in world[1] if box[1] == "held"])
    yield from calls_for(plan, held, callers)
    if callers is None or callers.changes:
        for word in ("put", "take"):
            for number in range(held):
                for mark in plan.marks:
                    yield (word, number, mark)


def count_calls(plan):
    """How many plain calls there are; they are not listed."""
    return sum([count_fillings(method.params, plan, 0) for _, method in list(plan.homes.values())])


def count_fillings(params, plan, news):
    """How many choices there are for the parameters; so many new boxes are written before."""
    if len(params) == 0:
        return 1
    others = params[1:]
    left_out = 0 if params[0].default is None else 1
    if params[0].holds == "mark":
        return (left_out + len(plan.marks)) * count_fillings(others, plan, news)
    with_new_box = len(plan.contents) * count_fillings(others, plan, news + 1)
    return with_new_box + (left_out + news) * count_fillings(others, plan, news)
