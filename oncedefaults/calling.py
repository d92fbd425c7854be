"""How steps are done, and what they report (13 to 16)."""

from oncedefaults.errors import BadHistory, CallError
from oncedefaults.states import copied
from oncedefaults.steps import arguments_of, bound, check_change, is_change

MOST_STEPS = 400


class Frame:
    """A call while it is done: the called kind, the marks of the parameters, and the boxes of the box variables."""

    def __init__(self, state, kind):
        self.state = state
        self.kind = kind
        self.marks_by_name = {}
        self.boxes_by_name = {}

    def written(self, items):
        """The marks that items mean, as contents."""
        return tuple(sorted(set([self.marks_by_name.get(item, item) for item in items])))

    def owner_kind(self, owner):
        """The kind that an owner means."""
        return self.kind if owner == "cls" else owner

    def value_box(self, owner, value):
        """The box of a class value."""
        return self.state.seat_of(self.owner_kind(owner), value)

    def set_value(self, owner, value, box):
        """The class value of the owner itself becomes the box."""
        self.state.set_value(self.owner_kind(owner), value, box)

    def contents_of(self, name):
        """The contents of the box of a variable."""
        return self.state.boxes[self.boxes_by_name[name]]


def with_marks(contents, marks):
    """Contents that have got these marks, too."""
    return tuple(sorted(set(contents + marks)))


def without_marks(contents, marks):
    """Contents that have lost these marks."""
    return tuple([mark for mark in contents if mark not in marks])


def do_new(frame, row):
    """x = {a m}"""
    frame.boxes_by_name[row[1]] = frame.state.new_box(frame.written(row[2]))


def do_name(frame, row):
    """x = y"""
    frame.boxes_by_name[row[1]] = frame.boxes_by_name[row[2]]


def do_copy(frame, row):
    """x = copy y"""
    frame.boxes_by_name[row[1]] = frame.state.new_box(frame.contents_of(row[2]))


def do_get(frame, row):
    """x = cls.v"""
    frame.boxes_by_name[row[1]] = frame.value_box(row[2], row[3])


def do_set(frame, row):
    """cls.v = x"""
    frame.set_value(row[1], row[2], frame.boxes_by_name[row[3]])


def do_add(frame, row):
    """x |= {a m}"""
    frame.state.boxes[frame.boxes_by_name[row[1]]] = with_marks(frame.contents_of(row[1]), frame.written(row[2]))


def do_drop(frame, row):
    """x -= {a m}"""
    frame.state.boxes[frame.boxes_by_name[row[1]]] = without_marks(frame.contents_of(row[1]), frame.written(row[2]))


def do_grow(frame, row):
    """cls.v |= {a m}"""
    box = frame.value_box(row[1], row[2])
    frame.state.boxes[box] = with_marks(frame.state.boxes[box], frame.written(row[3]))
    frame.set_value(row[1], row[2], box)


def do_shrink(frame, row):
    """cls.v -= {a m}"""
    box = frame.value_box(row[1], row[2])
    frame.state.boxes[box] = without_marks(frame.state.boxes[box], frame.written(row[3]))
    frame.set_value(row[1], row[2], box)


PLAIN = {
    "new": do_new, "name": do_name, "copy": do_copy, "get": do_get, "set": do_set,
    "add": do_add, "drop": do_drop, "grow": do_grow, "shrink": do_shrink,
}


def do_row(frame, row):
    """Does a row."""
    if row[0] == "if" or row[0] == "unless":
        if is_met(frame, row[1]) != (row[0] == "if"):
            return
        row = row[2]
    action = PLAIN[row[0]]
    action(frame, row)


def is_met(frame, test):
    """Whether a test holds."""
    word, left, right = test
    if word == "in":
        return frame.marks_by_name.get(left, left) in frame.contents_of(right)
    if word == "equal":
        return frame.contents_of(left) == frame.contents_of(right)
    return frame.boxes_by_name[left] == frame.boxes_by_name[right]


def give(frame, param, argument):
    """Gives a parameter its argument; the caller gets the box if it is a new one."""
    held = frame.state.held
    if param.holds == "mark":
        frame.marks_by_name[param.name] = argument
    elif isinstance(argument, tuple):
        held.append(frame.state.new_box(argument))
        frame.boxes_by_name[param.name] = held[-1]
    else:
        frame.boxes_by_name[param.name] = held[argument]


def give_default(frame, param, place):
    """Gives a parameter that was left out its default, which stands at this place if it is made once."""
    state = frame.state
    default = param.default
    if default[0] == "mark":
        frame.marks_by_name[param.name] = default[1]
    elif default[0] == "anew":
        frame.boxes_by_name[param.name] = state.new_box(default[1])
    elif default[0] == "late":
        frame.boxes_by_name[param.name] = frame.value_box(default[1], default[2])
    else:
        frame.boxes_by_name[param.name] = state.seats[state.plan.spots[place]]


def do_call(state, call):
    """Does a call; its answer."""
    given = bound(state.plan, call, len(state.held))
    home, method = state.plan.homes[(call[1], call[2])]
    frame = Frame(state, call[1])
    for param, argument in given:
        give(frame, param, argument)
    names = [param.name for param, _ in given]
    for param in method.params:
        if param.name not in names:
            give_default(frame, param, ("default", home, method.name, param.name))
    for row in method.rows:
        do_row(frame, row)
    return answer_of(frame, method.returns)


def answer_of(frame, returns):
    """The answer of a call; the caller gets the returned box."""
    if returns[0] == "none":
        return ("none",)
    if returns[0] == "test":
        return ("yes",) if is_met(frame, returns[1]) else ("no",)
    state = frame.state
    box = frame.boxes_by_name[returns[1]]
    if returns[0] == "copy":
        box = state.new_box(state.boxes[box])
    if box not in state.held:
        state.held.append(box)
    return "box", state.held.index(box)


def do_change(state, change):
    """Does a put or take; its answer."""
    check_change(state.plan, change, len(state.held))
    box = state.held[change[1]]
    if change[0] == "put":
        state.boxes[box] = with_marks(state.boxes[box], (change[2],))
    else:
        state.boxes[box] = without_marks(state.boxes[box], (change[2],))
    return ("none",)


def do_step(state, step):
    """Does a step, any object; its answer."""
    if is_change(step):
        return do_change(state, step)
    return do_call(state, step)


def report_at(state, call):
    """The report of a newcomer's call, any object, as if made now; the state does not change."""
    newcomer = copied(state, [])
    answer = do_call(newcomer, call)
    contents = tuple([newcomer.boxes[box] for box in newcomer.held])
    many = len([argument for argument in arguments_of(call) if isinstance(argument, tuple)])
    own = contents[:many]
    if answer[0] != "box":
        return answer, own
    if answer[1] < many:
        return ("own", answer[1]), own
    return ("box", contents[answer[1]]), own


def do_history(state, history, callers):
    """Does the steps of a history, any object, one after another; with callers, all of them must be allowed."""
    if not isinstance(history, tuple) or len(history) > MOST_STEPS:
        raise BadHistory(-1)
    for at, step in enumerate(history):
        if callers is not None and not callers.allows(step, len(state.held)):
            raise BadHistory(at)
        try:
            do_step(state, step)
        except CallError:
            raise BadHistory(at) from None
