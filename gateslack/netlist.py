"""NETLISTS: whether a thing is one, its signals, and its PATHS."""

from gateslack.errors import BadNetlist, NoEnd, NoSignal
from gateslack.words import MOST, is_name, is_whole

KINDS = ("not", "and", "nand", "or", "nor", "xor")
MOST_PATHS = 60
MOST_STARTS = 6
MOST_CORNERS = 3
# Of INPUTS, GATES, REGISTERS, OUTPUTS.
MOST_OF = (5, 14, 4, 4)


def is_one_of(thing, names):
    """Whether anything is one of these words of small letters."""
    # Nothing but a text is compared: a thing of another kind may call itself equal to one.
    return is_name(thing) and thing in names


def is_tuple(thing, least, most):
    """Whether anything is a tuple of least to most things."""
    return type(thing) is tuple and least <= len(thing) <= most


def are_pins(thing, least, most):
    """Whether anything is a tuple of least to most NAMES, all unlike."""
    if not is_tuple(thing, least, most):
        return False
    return all([is_name(name) for name in thing]) and len(set(thing)) == len(thing)


def bounds_of_pins(kind):
    """How many PINS a GATE of that KIND has at least, and at most."""
    return (1, 1) if kind == "not" else (2, 3)


def is_delay(thing):
    """Whether anything is a pair (EARLY, LATE)."""
    return is_tuple(thing, 2, 2) and is_whole(thing[0]) and is_whole(thing[1], least=thing[0])


def are_delays(thing):
    """Whether anything is DELAYS, for however many CORNERS there can be."""
    return is_tuple(thing, 1, MOST_CORNERS) and all([is_delay(delay) for delay in thing])


def is_input(thing):
    """Whether anything is an INPUT by itself."""
    return is_name(thing)


def is_gate(thing):
    """Whether anything is a GATE by itself."""
    if not is_tuple(thing, 4, 4):
        return False
    name, kind, pins, delays = thing
    if not (is_name(name) and is_one_of(kind, KINDS)):
        return False
    least, most = bounds_of_pins(kind)
    return are_pins(pins, least, most) and are_delays(delays)


def is_register(thing):
    """Whether anything is a REGISTER by itself."""
    if not is_tuple(thing, 6, 6):
        return False
    name, data, setup, hold, low, high = thing
    if not (is_name(name) and is_name(data)):
        return False
    return is_whole(setup) and is_whole(hold) and is_whole(low, least=-MOST, most=0) and is_whole(high)


def is_output(thing):
    """Whether anything is an OUTPUT by itself."""
    return is_tuple(thing, 2, 2) and is_name(thing[0]) and is_name(thing[1])


# Of INPUTS, GATES, REGISTERS, OUTPUTS, as in MOST_OF.
IS_SO = (is_input, is_gate, is_register, is_output)


def place_alone(thing):
    """The PLACE of the first part that isn't so by itself, or whose NAME stood ahead; else None."""
    if not is_tuple(thing, 4, 4):
        return ()
    names = []
    for four, rows in enumerate(thing):
        if not is_tuple(rows, 0, MOST_OF[four]):
            return (four,)
        is_so = IS_SO[four]
        for number, row in enumerate(rows):
            if not is_so(row):
                return (four, number)
            name = row if four == 0 else row[0]
            if name in names:
                return (four, number)
            names.append(name)
    return None


def place_beside(netlist):
    """The PLACE of the first part that isn't so beside the others, where each is so by itself; else None."""
    gates, registers, outputs = netlist[1:]
    if not 1 <= len(starts_of(netlist)) <= MOST_STARTS:
        return (0,)
    signals = signals_of(netlist)
    corners = corners_of(netlist)
    pins = pins_by_gate(netlist)
    faults_in_turn = (
        (1, [has_other_pins(gate, signals) or len(gate[3]) != corners for gate in gates]),
        (1, [gate[0] in gates_behind(gate[2], pins) for gate in gates]),
        (2, [row[1] not in signals for row in registers]),
        (3, [row[1] not in signals for row in outputs]),
    )
    for four, faults in faults_in_turn:
        if True in faults:
            return (four, faults.index(True))
    # PATHS can be counted only where nothing above is at fault.
    return (1,) if many_paths(netlist) > MOST_PATHS else None


def has_other_pins(gate, signals):
    """Whether a GATE has a PIN that is none of these signals."""
    return any([pin not in signals for pin in gate[2]])


def place_in(thing):
    """The PLACE of what isn't so in anything, None of a NETLIST."""
    place = place_alone(thing)
    return place_beside(thing) if place is None else place


def need_netlist(thing):
    """None of a NETLIST; BadNetlist of anything else."""
    place = place_in(thing)
    if place is not None:
        raise BadNetlist(place)


def is_netlist(thing):
    """Whether anything is a NETLIST."""
    return place_in(thing) is None


def names_of(rows):
    """The NAMES of GATES, REGISTERS or OUTPUTS."""
    return tuple([row[0] for row in rows])


def starts_of(netlist):
    """The NAMES of STARTS, in order."""
    return netlist[0] + names_of(netlist[2])


def ends_of(netlist):
    """The NAMES of ENDS, in order."""
    return names_of(netlist[2] + netlist[3])


def signals_of(netlist):
    """The NAMES of STARTS, then of GATES: of all that can be a PIN or DATA."""
    return starts_of(netlist) + names_of(netlist[1])


def need_signal(netlist, name):
    """None of a START or GATE; NoSignal of anything else."""
    if not is_one_of(name, signals_of(netlist)):
        raise NoSignal(name)


def corners_of(netlist):
    """How many CORNERS there are."""
    gates = netlist[1]
    return len(gates[0][3]) if gates else 1


def pins_by_gate(netlist):
    """The PINS of each GATE by its NAME, in the NETLIST's order."""
    return {gate[0]: gate[2] for gate in netlist[1]}


def data_by_end(netlist):
    """The DATA of each END by its NAME, in order."""
    return {row[0]: row[1] for row in netlist[2] + netlist[3]}


def feeders_of(netlist):
    """The PINS of each GATE, then the DATA alone of each END, by their NAMES."""
    feeders = pins_by_gate(netlist)
    data = data_by_end(netlist)
    for end in data:
        feeders[end] = (data[end],)
    return feeders


def order_of(netlist):
    """The NAMES of GATES in ORDER."""
    pins = pins_by_gate(netlist)
    waiting = list(pins)
    ordered = []
    while waiting:
        ready = [gate for gate in waiting if not any([pin in waiting for pin in pins[gate]])]
        ordered.append(ready[0])
        waiting.remove(ready[0])
    return tuple(ordered)


def pins_of(netlist, name):
    """The PINS of a GATE, the DATA alone of an END; NoSignal of all else."""
    feeders = feeders_of(netlist)
    if not is_one_of(name, feeders):
        raise NoSignal(name)
    return feeders[name]


def fed_by(netlist, name):
    """The NAMES of GATES, then of ENDS, that a START or GATE feeds; NoSignal of all else."""
    need_signal(netlist, name)
    feeders = feeders_of(netlist)
    return [fed for fed in feeders if name in feeders[fed]]


def gates_behind(names, pins):
    """Those of these NAMES that are GATES, and all GATES that feed them in however many steps."""
    waiting = list(names)
    behind = []
    while waiting:
        name = waiting.pop()
        if name in pins and name not in behind:
            behind.append(name)
            waiting.extend(pins[name])
    return behind


def cone_of(netlist, name):
    """The GATES, in ORDER, that feed a GATE (it too) or an END, back to STARTS; NoSignal of all else."""
    feeders = pins_of(netlist, name)
    behind = gates_behind((name, *feeders), pins_by_gate(netlist))
    return tuple([gate for gate in order_of(netlist) if gate in behind])


def ways_to(name, pins):
    """All ways from a START through GATES to a START or GATE, as PATHS without their ENDS."""
    if name not in pins:
        return [(name,)]
    return [(*way, name) for pin in pins[name] for way in ways_to(pin, pins)]


def paths_of(netlist, *, start=None, end=None):
    """A rising list of the PATHS, of that START, to that END where told; NoSignal, NoEnd of what is none."""
    data = data_by_end(netlist)
    if start is not None and not is_one_of(start, starts_of(netlist)):
        raise NoSignal(start)
    if end is not None and not is_one_of(end, data):
        raise NoEnd(end)
    pins = pins_by_gate(netlist)
    ends = list(data) if end is None else [end]
    paths = [(*way, each) for each in ends for way in ways_to(data[each], pins)]
    return sorted([path for path in paths if start is None or path[0] == start])


def is_path(netlist, thing):
    """Whether anything is a PATH."""
    if type(thing) is not tuple or not all([is_name(name) for name in thing]):
        return False
    return thing in paths_of(netlist)


def many_paths(netlist):
    """How many PATHS there are."""
    pins = pins_by_gate(netlist)
    # Counted, not listed: what is not yet known to be a NETLIST may have very many.
    ways = {start: 1 for start in starts_of(netlist)}
    for gate in order_of(netlist):
        ways[gate] = sum([ways[pin] for pin in pins[gate]])
    data = data_by_end(netlist)
    return sum([ways[data[end]] for end in data])
