"""The lines of a library (11)."""

TEST_SIGNS = {"in": "in", "equal": "==", "is": "is"}


def shown_items(items):
    """Items in braces."""
    return "{" + " ".join(items) + "}"


def shown_making(making):
    """A making of a class value."""
    if making[0] == "once":
        return shown_items(making[1])
    return f"{making[1]}.{making[2]}"


def shown_default(default):
    """What stands behind the name of a parameter."""
    if default is None:
        return ""
    if default[0] == "mark":
        return f"={default[1]}"
    if default[0] == "once" or default[0] == "anew":
        return f"={default[0]} {shown_items(default[1])}"
    return f"={default[0]} {default[1]}.{default[2]}"


def shown_params(params):
    """The parameters of a method, with a star before the first one that is named."""
    shown = []
    for param in params:
        if param.named and "*" not in shown:
            shown.append("*")
        shown.append(f"{param.holds} {param.name}{shown_default(param.default)}")
    return ", ".join(shown)


def shown_test(test):
    """A test."""
    return f"{test[1]} {TEST_SIGNS[test[0]]} {test[2]}"


def shown_plain(row):
    """A plain row."""
    word = row[0]
    if word == "new":
        return f"{row[1]} = {shown_items(row[2])}"
    if word == "name":
        return f"{row[1]} = {row[2]}"
    if word == "copy":
        return f"{row[1]} = copy {row[2]}"
    if word == "get":
        return f"{row[1]} = {row[2]}.{row[3]}"
    if word == "set":
        return f"{row[1]}.{row[2]} = {row[3]}"
    if word == "add":
        return f"{row[1]} |= {shown_items(row[2])}"
    if word == "drop":
        return f"{row[1]} -= {shown_items(row[2])}"
    if word == "grow":
        return f"{row[1]}.{row[2]} |= {shown_items(row[3])}"
    return f"{row[1]}.{row[2]} -= {shown_items(row[3])}"


def shown_row(row):
    """A row."""
    if row[0] == "if" or row[0] == "unless":
        return f"{row[0]} {shown_test(row[1])}: {shown_plain(row[2])}"
    return shown_plain(row)


def shown_result(returns):
    """A result."""
    if returns[0] == "none":
        return "return none"
    if returns[0] == "box":
        return f"return {returns[1]}"
    if returns[0] == "copy":
        return f"return copy {returns[1]}"
    return f"return {shown_test(returns[1])}"


def shown_kind(kind):
    """The lines of a kind."""
    lines = [f"kind {kind.name}" if kind.base is None else f"kind {kind.name}({kind.base})"]
    lines.extend([f"value {name} = {shown_making(making)}" for name, making in kind.own_values])
    for method in kind.methods:
        lines.append(f"def {method.name}({shown_params(method.params)})")
        lines.extend([shown_row(row) for row in method.rows])
        lines.append(shown_result(method.returns))
    return lines
