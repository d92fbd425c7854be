"""Papers bent in one part: True for 1, a list for a tuple, a part more or less, other words and numbers."""

WORDS = ["a", "b", "held", "free", "put", "take", "call", "after", "never", "alike", "apart", "found", "blind", "anew", "none", "f", ""]


def paths(thing):
    """The ways to all parts of a nested tuple, itself included."""
    found = [()]
    if isinstance(thing, tuple):
        found += [(at, *path) for at, part in enumerate(thing) for path in paths(part)]
    return found


def at_path(thing, path):
    for at in path:
        thing = thing[at]
    return thing


def replaced(thing, path, other):
    if path == ():
        return other
    at = path[0]
    return (*thing[:at], replaced(thing[at], path[1:], other), *thing[at + 1:])


def variants(thing):
    """What may stand in the place of a part."""
    found = [None, [thing], (thing,), "a", 0, True]
    if isinstance(thing, tuple):
        found += [list(thing), (*thing, None), (*thing, *thing[-1:]), thing[::-1], ()]
        found += [(*thing[:at], *thing[at + 1:]) for at in range(len(thing))]
        found += [(*thing[:at], thing[at], *thing[at:]) for at in range(len(thing))]
    elif isinstance(thing, int):
        found += [bool(thing), thing + 1, thing - 1, -thing, str(thing), 10 ** 39]
    elif isinstance(thing, str):
        found += [*WORDS, thing + "a", list(thing), tuple(thing)]
    return found


def bent(thing):
    """All of them."""
    for path in paths(thing):
        for other in variants(at_path(thing, path)):
            yield replaced(thing, path, other)


def some_bent(random, thing, count):
    ways = paths(thing)
    for _ in range(count):
        path = random.choice(ways)
        yield replaced(thing, path, random.choice(variants(at_path(thing, path))))


def stretched(choose, worlds, away, most=25):
    """Worlds, or joint worlds, with another one and all that are away from it, in any order, some of them twice."""
    seats, boxes = choose.choice(worlds)
    todo = [(seats, tuple((choose.choice([(), ("a",)]), word) for _, word in boxes))]
    found = list(worlds)
    while todo and len(found) < most:
        one = todo.pop()
        if one not in found:
            found.append(one)
            todo += away(one)
    found += found[:2]
    choose.shuffle(found)
    return tuple(found)
