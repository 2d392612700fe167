"""What STARTS and GATES are by FILLINGS, PARTIAL ones too."""

from gateslack.errors import BadFilling
from gateslack.netlist import is_one_of, is_tuple, need_signal, order_of, signals_of, starts_of
from gateslack.words import is_whole

# One PIN of that value decides, whatever the others are.
DECIDING = {"and": 0, "nand": 0, "or": 1, "nor": 1}
# These are the other one of what stands without it.
TURNING = ("not", "nand", "nor")


def is_value(thing):
    """Whether anything is 0 or 1."""
    return is_whole(thing, most=1)


def is_filling(netlist, thing, partial):
    """Whether anything is a FILLING, where partial is True a PARTIAL one."""
    many = len(starts_of(netlist))
    if not is_tuple(thing, many, many):
        return False
    return all([is_value(value) or (partial and value is None) for value in thing])


def need_filling(netlist, thing, *, partial=False):
    """None of a FILLING, by True of a PARTIAL one; BadFilling of anything else."""
    if not is_filling(netlist, thing, partial):
        raise BadFilling()


def fillings(netlist):
    """A rising list of all FILLINGS."""
    rows = [()]
    for _ in starts_of(netlist):
        rows = [(*row, value) for row in rows for value in (0, 1)]
    return rows


def gates_in_order(netlist):
    """The GATES in ORDER."""
    gates = {gate[0]: gate for gate in netlist[1]}
    return [gates[name] for name in order_of(netlist)]


def decided_gate(kind, values):
    """What a GATE of that KIND is DECIDED to be by what its PINS are; else None."""
    if kind in DECIDING and DECIDING[kind] in values:
        plain = DECIDING[kind]
    elif None in values:
        return None
    elif kind in DECIDING:
        plain = 1 - DECIDING[kind]
    else:
        # Of "xor", and of the one PIN of "not" likewise.
        plain = sum(values) % 2
    return 1 - plain if kind in TURNING else plain


def decided_by(starts, gates, filling):
    """What STARTS, then GATES in ORDER, are DECIDED to be, by their NAMES."""
    decided = dict(zip(starts, filling))
    for name, kind, pins, _ in gates:
        decided[name] = decided_gate(kind, [decided[pin] for pin in pins])
    return decided


def decided_of(netlist, filling):
    """What STARTS, then GATES in ORDER, are DECIDED to be by a PARTIAL filling; BadFilling."""
    need_filling(netlist, filling, partial=True)
    return decided_by(starts_of(netlist), gates_in_order(netlist), filling)


def values_by_filling(netlist):
    """All values, by their NAMES, by each FILLING; FILLINGS rise."""
    starts = starts_of(netlist)
    gates = gates_in_order(netlist)
    return {filling: decided_by(starts, gates, filling) for filling in fillings(netlist)}


def table_of(netlist, name):
    """The TABLE of a START or GATE; NoSignal."""
    need_signal(netlist, name)
    values = values_by_filling(netlist)
    return "".join([str(values[filling][name]) for filling in values])


def hangs_on(netlist, name):
    """(START, FILLING that shows it) of all STARTS on which a START or GATE HANGS; NoSignal."""
    need_signal(netlist, name)
    values = values_by_filling(netlist)
    found = []
    for number, start in enumerate(starts_of(netlist)):
        for filling in values:
            # By 1 at that START: itself, where it is 1 there already.
            beside = filling[:number] + (1,) + filling[number + 1 :]
            if values[filling][name] != values[beside][name]:
                found.append((start, filling))
                break
    return found


def unlike_by(netlist, one, other):
    """The least FILLING by which two STARTS or GATES have unlike values, or None; NoSignal."""
    need_signal(netlist, one)
    need_signal(netlist, other)
    values = values_by_filling(netlist)
    for filling in values:
        if values[filling][one] != values[filling][other]:
            return filling
    return None


def are_wants(netlist, thing):
    """Whether anything is a tuple of pairs (NAME of a START or GATE, 0 or 1)."""
    if type(thing) is not tuple:
        return False
    signals = signals_of(netlist)
    return all([is_tuple(pair, 2, 2) and is_one_of(pair[0], signals) and is_value(pair[1]) for pair in thing])


def filling_for(netlist, wants, *, filling=None):
    """The least FILLING by which all wants hold, and what a PARTIAL one tells, or None; BadFilling."""
    if not are_wants(netlist, wants):
        raise BadFilling()
    wanted = list(wants)
    if filling is not None:
        need_filling(netlist, filling, partial=True)
        wanted.extend([(start, value) for start, value in zip(starts_of(netlist), filling) if value is not None])
    values = values_by_filling(netlist)
    for each in values:
        if all([values[each][name] == value for name, value in wanted]):
            return each
    return None
