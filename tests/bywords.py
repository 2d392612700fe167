"""What the document's words say, worked out plainly, for the tests to compare with."""

import itertools
from fractions import Fraction

from gateslack.netlist import paths_of


def gate_of(netlist, name):
    return [gate for gate in netlist[1] if gate[0] == name][0]


def starts(netlist):
    return list(netlist[0]) + [row[0] for row in netlist[2]]


def value_by_words(netlist, name, values):
    """The value of a signal by the words of [3] and a FILLING, a START's value by its name."""
    if name in values:
        return values[name]
    _, kind, pins, _ = gate_of(netlist, name)
    ones = [value_by_words(netlist, pin, values) for pin in pins].count(1)
    return {
        "not": int(ones == 0),
        "and": int(ones == len(pins)),
        "nand": int(ones < len(pins)),
        "or": int(ones > 0),
        "nor": int(ones == 0),
        "xor": int(ones in (1, 3)),
    }[kind]


def decided_by_words(netlist, name, told):
    """What a signal is DECIDED to be: one PIN's values tell nothing of another one's."""
    if name in told:
        return told[name]
    _, kind, pins, delays = gate_of(netlist, name)
    values = [decided_by_words(netlist, pin, told) for pin in pins]
    found = set()
    for filled in itertools.product(*[(0, 1) if value is None else (value,) for value in values]):
        own = (pins, ((name, kind, pins, delays),), (), ())
        found.add(value_by_words(own, name, dict(zip(pins, filled))))
    return found.pop() if len(found) == 1 else None


def beside(netlist, path):
    """The SIDE PINS of a PATH by the words of [4]."""
    found = []
    for at in range(1, len(path) - 1):
        found += [(path[at], pin) for pin in gate_of(netlist, path[at])[2] if pin != path[at - 1]]
    return found


def stops(netlist, gate, value):
    """Whether a SIDE PIN of that GATE doesn't let through by that value."""
    return (gate_of(netlist, gate)[1], value) in {("and", 0), ("nand", 0), ("or", 1), ("nor", 1)}


def opens(netlist, path, filling):
    told = dict(zip(starts(netlist), filling))
    return not any(stops(netlist, gate, value_by_words(netlist, pin, told)) for gate, pin in beside(netlist, path))


def all_openings(netlist, path):
    rows = itertools.product((0, 1), repeat=len(starts(netlist)))
    return [row for row in rows if opens(netlist, path, row)]


def all_true(netlist):
    """The TRUE PATHS."""
    return [path for path in paths_of(netlist) if all_openings(netlist, path)]


def first_fault(netlist, path, part, told, way=()):
    """The WAY to the first part of CASES, all of them good by their form, that isn't so; None without one."""
    if part[0] == "cut":
        _, gate, pin = part
        if (gate, pin) not in beside(netlist, path):
            return way
        return None if stops(netlist, gate, decided_by_words(netlist, pin, told)) else way
    start = part[1]
    if start not in starts(netlist) or told[start] is not None:
        return way
    for value in (0, 1):
        fault = first_fault(netlist, path, part[2 + value], {**told, start: value}, (*way, value))
        if fault is not None:
            return fault
    return None


def sides(netlist, end):
    return ("early", "late") if end in [row[0] for row in netlist[2]] else ("late",)


def corners(netlist):
    return range(len(netlist[1][0][3]) if netlist[1] else 1)


def all_checks(netlist):
    ends = [row[0] for row in netlist[2] + netlist[3]]
    return sorted((side, end, corner) for end in ends for side in sides(netlist, end) for corner in corners(netlist))


def slack_by_words(netlist, period, skews, path, side, corner):
    """The SLACK of a PATH by the words of [5]; SKEWS may be any numbers."""
    skew = dict.fromkeys([*netlist[0], *[row[0] for row in netlist[3]]], 0)
    skew.update(zip([row[0] for row in netlist[2]], skews))
    setup = {row[0]: row[2] for row in netlist[2]}.get(path[-1], 0)
    if side == "late":
        late = sum(gate_of(netlist, gate)[3][corner][1] for gate in path[1:-1])
        return skew[path[-1]] + period - setup - skew[path[0]] - late
    hold = {row[0]: row[3] for row in netlist[2]}[path[-1]]
    early = sum(gate_of(netlist, gate)[3][corner][0] for gate in path[1:-1])
    return skew[path[0]] + early - skew[path[-1]] - hold


def rows_by_words(netlist, clock, check, paths):
    """The ROWS of a CHECK, of these TRUE PATHS."""
    side, end, corner = check
    led = [path for path in paths if path[-1] == end]
    return sorted((slack_by_words(netlist, *clock, path, side, corner), path) for path in led)


def least_slack(netlist, period, skews, paths):
    """The least SLACK of these TRUE PATHS at all CORNERS, or None."""
    told = [Fraction(*skew) for skew in skews]
    found = [
        slack_by_words(netlist, period, told, path, side, corner)
        for path in paths
        for side in sides(netlist, path[-1])
        for corner in corners(netlist)
    ]
    return min(found, default=None)


def xs_by_words(netlist, rule):
    """The two X of a RULE by the words of [6], None for all that are no REGISTERS."""
    names = [row[0] for row in netlist[2]]
    if rule[0] in ("low", "high"):
        return (None, rule[1]) if rule[0] == "low" else (rule[1], None)
    start, end = [name if name in names else None for name in (rule[1][0], rule[1][-1])]
    return (start, end) if rule[0] == "late" else (end, start)


def number_by_words(netlist, rule, period):
    """The NUMBER of a RULE by the words of [6]."""
    rows = {row[0]: row for row in netlist[2]}
    if rule[0] == "low":
        return 0 - rows[rule[1]][4]
    if rule[0] == "high":
        return rows[rule[1]][5]
    side, path, corner = rule
    delays = [gate_of(netlist, gate)[3][corner] for gate in path[1:-1]]
    if side == "late":
        return period - rows.get(path[-1], (0,) * 6)[2] - sum(late for _, late in delays)
    return sum(early for early, _ in delays) - rows[path[-1]][3]


def mean_by_words(netlist, ring, period):
    total = sum(number_by_words(netlist, rule, period) for rule in ring)
    return Fraction(total, sum(1 for rule in ring if len(rule) == 3))


def all_rules(netlist, paths):
    found = [("low", row[0]) for row in netlist[2]] + [("high", row[0]) for row in netlist[2]]
    for path in paths:
        found += [(side, path, corner) for side in sides(netlist, path[-1]) for corner in corners(netlist)]
    return sorted(found)


def arrivals_by_words(netlist, clock, name, corner):
    """ARRIVALS by the words of [7]."""
    if name in starts(netlist):
        skew = dict(zip([row[0] for row in netlist[2]], clock[1])).get(name, 0)
        return (skew, skew)
    _, _, pins, delays = gate_of(netlist, name)
    pairs = [arrivals_by_words(netlist, clock, pin, corner) for pin in pins]
    early, late = delays[corner]
    return (min(pair[0] for pair in pairs) + early, max(pair[1] for pair in pairs) + late)


def all_arrivals(netlist, clock):
    """ARRIVALS of all STARTS and GATES, at all CORNERS, by their NAMES."""
    names = starts(netlist) + [gate[0] for gate in netlist[1]]
    return {name: [arrivals_by_words(netlist, clock, name, at) for at in corners(netlist)] for name in names}


def edited_by_words(netlist, clock, edit):
    """(NETLIST, CLOCK) as an EDIT makes them, whether they are any or not."""
    inputs, gates, registers, outputs = [list(rows) for rows in netlist]
    period, skews = clock[0], list(clock[1])
    if edit[0] == "period":
        period = edit[1]
    elif edit[0] == "skew":
        skews[[row[0] for row in registers].index(edit[1])] = edit[2]
    for rows in (gates, registers, outputs):
        for at, row in enumerate(rows):
            if len(edit) > 2 and row[0] == edit[1]:
                if edit[0] == "delays":
                    rows[at] = (*row[:3], edit[2])
                elif edit[0] == "gate":
                    rows[at] = (row[0], edit[2], edit[3], row[3])
                elif edit[0] == "data":
                    rows[at] = (row[0], edit[2], *row[2:])
                elif edit[0] == "checks":
                    rows[at] = (*row[:2], *edit[2:])
    return (tuple(inputs), tuple(gates), tuple(registers), tuple(outputs)), (period, tuple(skews))


def reckoned_by_words(order, ahead, behind, edit):
    """The GATES RECKONED, in ORDER, by all (NETLIST, ARRIVALS) ahead and behind."""
    found = []
    for name in order:
        others = any(ahead[pin] != behind[1][pin] for pin in gate_of(behind[0], name)[2])
        if others or (edit[0] in ("delays", "gate") and edit[1] == name):
            found.append(name)
    return tuple(found)
