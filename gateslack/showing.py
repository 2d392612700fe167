"""The texts by which the program shows what it tells: one blank between two words."""

LINE = "\n"
UNTOLD = "x"


def in_words(words):
    """A line of these names and numbers."""
    return " ".join([str(word) for word in words])


def delays_words(delays):
    """The words of DELAYS."""
    return [word for early, late in delays for word in ("/", early, late)]


def gate_words(gate):
    """The words of a GATE."""
    name, kind, pins, delays = gate
    return ["gate", name, kind, *pins] + delays_words(delays)


def netlist_text(netlist, *, sign=LINE):
    """The lines of a NETLIST, sign between two."""
    inputs, gates, registers, outputs = netlist
    rows = [["input", name] for name in inputs]
    rows += [gate_words(gate) for gate in gates]
    rows += [["register", *row] for row in registers]
    rows += [["output", *row] for row in outputs]
    return sign.join([in_words(row) for row in rows])


def clock_text(clock):
    """The line of a CLOCK."""
    period, skews = clock
    return in_words(["clock", period, *skews])


def edit_text(edit):
    """The line of an EDIT."""
    # Only these two have things that are more than a word.
    if edit[0] == "delays":
        return in_words(list(edit[:2]) + delays_words(edit[2]))
    if edit[0] == "gate":
        return in_words(edit[:3] + edit[3])
    return in_words(edit)


def edits_text(edits, *, sign=LINE):
    """The lines of a tuple or list of EDITS, sign between two."""
    return sign.join([edit_text(edit) for edit in edits])


def path_text(path):
    """The line of a PATH."""
    return in_words(path)


def filling_text(filling):
    """The line of a FILLING, a PARTIAL one too."""
    return in_words([UNTOLD if value is None else value for value in filling])


def cases_words(cases):
    """The words of CASES."""
    if cases[0] == "cut":
        return list(cases)
    word, start, by_0, by_1 = cases
    return [word, start] + cases_words(by_0) + cases_words(by_1)


def cases_text(cases):
    """The line of CASES."""
    return in_words(cases_words(cases))


def rule_text(rule):
    """The words of a RULE; the CORNER stands ahead of the PATH."""
    if rule[0] in ("low", "high"):
        return in_words(rule)
    side, path, corner = rule
    return in_words([side, corner, *path])


def ring_text(ring):
    """The line of a RING."""
    return " / ".join([rule_text(rule) for rule in ring])


def fraction_text(fraction):
    """The line of a FRACTION."""
    top, bottom = fraction
    return str(top) if bottom == 1 else f"{top}/{bottom}"
