"""NETLISTS put otherwise, by which all stays as it is, and the first END that tells two apart."""

from gateslack.errors import BadEdit, NoSignal, TooMany
from gateslack.netlist import corners_of, data_by_end, ends_of, is_one_of, names_of, need_netlist, starts_of
from gateslack.values import values_by_filling
from gateslack.words import is_name

MOST_GATES = 14
# The KIND of the new GATE ahead of one, by that one's.
HALF_OF = {"and": "and", "nand": "and", "or": "or", "nor": "or", "xor": "xor"}
TURN_OF = {"and": "nand", "nand": "and", "or": "nor", "nor": "or"}


def all_names(netlist):
    """All NAMES."""
    return netlist[0] + names_of(netlist[1]) + names_of(netlist[2]) + names_of(netlist[3])


def are_new_names(netlist, names):
    """Whether anything is a dict from just all NAMES of a NETLIST to unlike ones."""
    if type(names) is not dict or not all([is_name(name) for name in names]):
        return False
    if sorted(names) != sorted(all_names(netlist)):
        return False
    others = list(names.values())
    return all([is_name(name) for name in others]) and len(set(others)) == len(others)


def renamed(netlist, names):
    """The NETLIST by other NAMES; BadNetlist, BadEdit."""
    need_netlist(netlist)
    if not are_new_names(netlist, names):
        raise BadEdit()
    inputs, gates, registers, outputs = netlist
    return (
        tuple([names[name] for name in inputs]),
        tuple([(names[name], kind, tuple([names[pin] for pin in pins]), delays) for name, kind, pins, delays in gates]),
        tuple([(names[row[0]], names[row[1]], *row[2:]) for row in registers]),
        tuple([(names[row[0]], names[row[1]]) for row in outputs]),
    )


def with_gates(netlist, gates):
    """The NETLIST with these GATES."""
    return (netlist[0], tuple(gates), netlist[2], netlist[3])


def regated(netlist, order):
    """The NETLIST whose GATES stand in that order; BadNetlist, BadEdit."""
    need_netlist(netlist)
    if type(order) is not tuple or not all([is_name(name) for name in order]):
        raise BadEdit()
    gates = {gate[0]: gate for gate in netlist[1]}
    if sorted(order) != sorted(gates):
        raise BadEdit()
    return with_gates(netlist, [gates[name] for name in order])


def number_of_gate(netlist, gate):
    """The number, from 0, of a GATE; BadNetlist, NoSignal of what is none."""
    need_netlist(netlist)
    names = names_of(netlist[1])
    if not is_one_of(gate, names):
        raise NoSignal(gate)
    return names.index(gate)


def repinned(netlist, gate):
    """The NETLIST in which a GATE has its PINS the other way about; BadNetlist, NoSignal."""
    number = number_of_gate(netlist, gate)
    gates = list(netlist[1])
    name, kind, pins, delays = gates[number]
    gates[number] = (name, kind, pins[::-1], delays)
    return with_gates(netlist, gates)


def need_room(netlist, name):
    """None where a GATE of that NAME can be put in; BadEdit of no new NAME, TooMany."""
    if not is_name(name) or name in all_names(netlist):
        raise BadEdit()
    if len(netlist[1]) >= MOST_GATES:
        raise TooMany(MOST_GATES)


def put_ahead(netlist, number, new, other):
    """The NETLIST with another GATE of that number, and a new one straight ahead of it, both without their DELAYS."""
    gates = netlist[1]
    still = tuple([(0, 0) for _ in range(corners_of(netlist))])
    pair = ((*new, still), (*other, gates[number][3]))
    return with_gates(netlist, gates[:number] + pair + gates[number + 1 :])


def halved(netlist, gate, name):
    """The NETLIST with a GATE HALVED by a new one; BadNetlist, NoSignal, BadEdit, TooMany(14)."""
    number = number_of_gate(netlist, gate)
    kind, pins = netlist[1][number][1:3]
    if len(pins) != 3:
        raise BadEdit()
    need_room(netlist, name)
    return put_ahead(netlist, number, (name, HALF_OF[kind], pins[:2]), (gate, kind, (name, pins[2])))


def turned(netlist, gate, name):
    """The NETLIST with a GATE TURNED by a new one; BadNetlist, NoSignal, BadEdit, TooMany(14)."""
    number = number_of_gate(netlist, gate)
    kind, pins = netlist[1][number][1:3]
    if kind not in TURN_OF:
        raise BadEdit()
    need_room(netlist, name)
    return put_ahead(netlist, number, (name, TURN_OF[kind], pins), (gate, "not", (name,)))


def unlike_end(netlist, other):
    """(END, FILLING) of the first END that tells unlike values by some FILLING, the least one; BadNetlist, BadEdit."""
    need_netlist(netlist)
    need_netlist(other)
    if starts_of(netlist) != starts_of(other) or ends_of(netlist) != ends_of(other):
        raise BadEdit()
    data, other_data = data_by_end(netlist), data_by_end(other)
    values, other_values = values_by_filling(netlist), values_by_filling(other)
    for end in data:
        for filling in values:
            if values[filling][data[end]] != other_values[filling][other_data[end]]:
                return (end, filling)
    return None
