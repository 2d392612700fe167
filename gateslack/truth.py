"""Which PATHS are TRUE, by which FILLINGS, and CASES, which show that one is FALSE."""

from gateslack.errors import BadPaper, BadPath
from gateslack.netlist import gates_behind, is_one_of, is_path, is_tuple, paths_of, pins_by_gate, starts_of
from gateslack.values import DECIDING, decided_by, gates_in_order, is_filling, values_by_filling
from gateslack.words import is_name


def need_path(netlist, thing):
    """None of a PATH; BadPath of anything else."""
    if not is_path(netlist, thing):
        raise BadPath()


def pins_beside(netlist, path):
    """The SIDE PINS of a PATH, as pairs (GATE, PIN)."""
    pins = pins_by_gate(netlist)
    return [(gate, pin) for ahead, gate in zip(path, path[1:-1]) for pin in pins[gate] if pin != ahead]


def side_pins(netlist, path):
    """The SIDE PINS of a PATH, by its GATES, then by their PINS; BadPath."""
    need_path(netlist, path)
    return pins_beside(netlist, path)


def stops_of(netlist, path):
    """(GATE, PIN, the value by which it doesn't let through) of each SIDE PIN that has such a value."""
    kinds = {gate[0]: gate[1] for gate in netlist[1]}
    # The value that decides a GATE is the one that lets nothing else through; "xor" has none.
    return [(gate, pin, DECIDING[kinds[gate]]) for gate, pin in pins_beside(netlist, path) if kinds[gate] in DECIDING]


def cuts_by(stops, decided):
    """A "cut" of each SIDE PIN that is DECIDED so that it doesn't let through."""
    return [("cut", gate, pin) for gate, pin, value in stops if decided[pin] == value]


def opens_some(stops, values):
    """Whether all SIDE PINS let through by some FILLING."""
    for filling in values:
        if not cuts_by(stops, values[filling]):
            return True
    return False


def does_open(netlist, path, filling):
    """Whether anything is a FILLING that OPENS a PATH; BadPath."""
    need_path(netlist, path)
    if not is_filling(netlist, filling, False):
        return False
    return not cuts_by(stops_of(netlist, path), decided_by(starts_of(netlist), gates_in_order(netlist), filling))


def openings(netlist, path):
    """A rising list of all FILLINGS that OPEN a PATH; BadPath."""
    need_path(netlist, path)
    stops = stops_of(netlist, path)
    values = values_by_filling(netlist)
    return [filling for filling in values if not cuts_by(stops, values[filling])]


def opening(netlist, path):
    """The least FILLING that OPENS a PATH, None of a FALSE one; BadPath."""
    found = openings(netlist, path)
    return found[0] if found else None


def is_true(netlist, path):
    """Whether a PATH is TRUE; BadPath."""
    return opening(netlist, path) is not None


def true_paths(netlist, *, start=None, end=None):
    """Those of paths_of that are TRUE; NoSignal, NoEnd as there."""
    paths = paths_of(netlist, start=start, end=end)
    values = values_by_filling(netlist)
    return [path for path in paths if opens_some(stops_of(netlist, path), values)]


def starts_behind(netlist, names):
    """The STARTS, in order, that are among these NAMES or feed them in however many steps."""
    pins = pins_by_gate(netlist)
    behind = list(names) + [pin for gate in gates_behind(names, pins) for pin in pins[gate]]
    return [start for start in starts_of(netlist) if start in behind]


def nothing_told(starts):
    """The PARTIAL filling by which all STARTS are None."""
    return tuple([None for _ in starts])


def told_more(filling, at, value):
    """A PARTIAL filling by which one START more is told."""
    return filling[:at] + (value,) + filling[at + 1 :]


def cases_by(starts, gates, stops, asked, filling):
    """CASES behind a PARTIAL filling, these STARTS being asked one behind the other."""
    cuts = cuts_by(stops, decided_by(starts, gates, filling))
    if cuts:
        return cuts[0]
    start, *later = asked
    at = starts.index(start)
    by_0 = cases_by(starts, gates, stops, later, told_more(filling, at, 0))
    by_1 = cases_by(starts, gates, stops, later, told_more(filling, at, 1))
    return ("ask", start, by_0, by_1)


def cases_of(netlist, path):
    """Some CASES of a FALSE PATH, None of a TRUE one; BadPath."""
    if is_true(netlist, path):
        return None
    starts = starts_of(netlist)
    stops = stops_of(netlist, path)
    # Other STARTS decide no SIDE PIN, so asking them would only make the CASES longer.
    asked = starts_behind(netlist, [pin for gate, pin, value in stops])
    return cases_by(starts, gates_in_order(netlist), stops, asked, nothing_told(starts))


def is_cut(thing):
    """Whether anything is a "cut" by its form."""
    return is_tuple(thing, 3, 3) and is_one_of(thing[0], ("cut",)) and is_name(thing[1]) and is_name(thing[2])


def is_ask(thing):
    """Whether anything is an "ask" by its form, whatever its parts are."""
    return is_tuple(thing, 4, 4) and is_one_of(thing[0], ("ask",)) and is_name(thing[1])


def fault_in(starts, gates, stops, thing, filling):
    """The WAY to the first part that isn't so behind a PARTIAL filling; None of CASES."""
    if is_cut(thing):
        return None if thing in cuts_by(stops, decided_by(starts, gates, filling)) else ()
    if not is_ask(thing) or thing[1] not in starts:
        return ()
    at = starts.index(thing[1])
    if filling[at] is not None:
        return ()
    for value in (0, 1):
        way = fault_in(starts, gates, stops, thing[2 + value], told_more(filling, at, value))
        if way is not None:
            return (value, *way)
    return None


def fault_of(netlist, path, thing):
    """The WAY to the first part of anything that isn't so, None of CASES of a PATH."""
    starts = starts_of(netlist)
    return fault_in(starts, gates_in_order(netlist), stops_of(netlist, path), thing, nothing_told(starts))


def are_cases(netlist, path, thing):
    """Whether anything is CASES of a PATH; BadPath."""
    need_path(netlist, path)
    return fault_of(netlist, path, thing) is None


def need_cases(netlist, path, thing):
    """None of CASES of a PATH; BadPath, then BadPaper of anything else."""
    need_path(netlist, path)
    way = fault_of(netlist, path, thing)
    if way is not None:
        raise BadPaper(way)
