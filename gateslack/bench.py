"""A bench, which keeps a NETLIST and a CLOCK through EDITS, and tells what is so by them."""

from gateslack.errors import BadEdit, NothingDone, TimingError
from gateslack.netlist import corners_of, ends_of, is_one_of, names_of, need_netlist, need_signal, starts_of
from gateslack.slack import failing, need_clock, need_corner, slacks_of, worst
from gateslack.values import gates_in_order

# How many things an EDIT has, by its word.
MANY_THINGS = {"delays": 3, "gate": 4, "data": 3, "checks": 6, "skew": 3, "period": 2}
# Where, in what an EDIT of the NETLIST names, its things stand.
STANDS_AT = {"delays": 3, "gate": 1, "data": 1, "checks": 2}
OF_GATES = ("delays", "gate")


def names_for(netlist, word):
    """The NAMES that may stand in an EDIT of that word."""
    if word in OF_GATES:
        return names_of(netlist[1])
    return ends_of(netlist) if word == "data" else names_of(netlist[2])


def need_edit(netlist, edit):
    """None of what is so far an EDIT, whatever it would make of the NETLIST and CLOCK; BadEdit of anything else."""
    if type(edit) is not tuple or not edit or not is_one_of(edit[0], list(MANY_THINGS)):
        raise BadEdit()
    if len(edit) != MANY_THINGS[edit[0]]:
        raise BadEdit()
    if edit[0] != "period" and not is_one_of(edit[1], names_for(netlist, edit[0])):
        raise BadEdit()
    if edit[0] == "delays" and type(edit[2]) is tuple and len(edit[2]) != corners_of(netlist):
        raise BadEdit()


def with_things(row, at, things):
    """A GATE, REGISTER or OUTPUT in which these things stand from there on."""
    return row[:at] + things + row[at + len(things) :]


def edited_netlist(netlist, edit):
    """What is handed in as a NETLIST by an EDIT."""
    if edit[0] not in STANDS_AT:
        return netlist
    at = STANDS_AT[edit[0]]
    fours = [netlist[0]]
    for rows in netlist[1:]:
        fours.append(tuple([with_things(row, at, edit[2:]) if row[0] == edit[1] else row for row in rows]))
    return tuple(fours)


def edited_clock(netlist, clock, edit):
    """What is handed in as a CLOCK by an EDIT."""
    period, skews = clock
    if edit[0] == "period":
        return (edit[1], skews)
    if edit[0] == "skew":
        names = names_of(netlist[2])
        return (period, tuple([edit[2] if name == edit[1] else skew for name, skew in zip(names, skews)]))
    return clock


def start_arrivals(netlist, clock):
    """The ARRIVALS of STARTS, a pair for each CORNER, by their NAMES."""
    skew_of = dict(zip(names_of(netlist[2]), clock[1]))
    skews = {start: skew_of.get(start, 0) for start in starts_of(netlist)}
    return {start: tuple([(skews[start], skews[start]) for _ in range(corners_of(netlist))]) for start in skews}


def gate_arrivals(gate, arrivals):
    """The ARRIVALS of a GATE, a pair for each CORNER, by those of its PINS."""
    found = []
    for corner, (early, late) in enumerate(gate[3]):
        pairs = [arrivals[pin][corner] for pin in gate[2]]
        found.append((min([pair[0] for pair in pairs]) + early, max([pair[1] for pair in pairs]) + late))
    return tuple(found)


def reckon(netlist, clock, ahead, edited):
    """(all ARRIVALS by their NAMES, the GATES RECKONED), by those ahead and the GATES that were edited."""
    arrivals = start_arrivals(netlist, clock)
    others = [start for start in arrivals if arrivals[start] != ahead.get(start)]
    reckoned = []
    for gate in gates_in_order(netlist):
        name = gate[0]
        if name in edited or any([pin in others for pin in gate[2]]):
            reckoned.append(name)
            arrivals[name] = gate_arrivals(gate, arrivals)
            if arrivals[name] != ahead.get(name):
                others.append(name)
        else:
            arrivals[name] = ahead[name]
    return (arrivals, tuple(reckoned))


class Bench:
    """A NETLIST and a CLOCK, and the EDITS that made them what they are."""

    def __init__(self, netlist, clock):
        need_netlist(netlist)
        need_clock(netlist, clock)
        self._netlist = netlist
        self._clock = clock
        # With none ahead, all are reckoned.
        self._arrivals = reckon(netlist, clock, {}, ())[0]
        # Of each EDIT done: it, and the NETLIST, the CLOCK and the ARRIVALS ahead of it.
        self._done = []
        self._log = []

    def edit(self, edit):
        """An EDIT is done; the GATES RECKONED. BadEdit, BadNetlist, BadClock."""
        need_edit(self._netlist, edit)
        netlist = edited_netlist(self._netlist, edit)
        need_netlist(netlist)
        clock = edited_clock(netlist, self._clock, edit)
        need_clock(netlist, clock)
        edited = (edit[1],) if edit[0] in OF_GATES else ()
        arrivals, reckoned = reckon(netlist, clock, self._arrivals, edited)
        self._done.append((edit, self._netlist, self._clock, self._arrivals))
        self._netlist, self._clock, self._arrivals = netlist, clock, arrivals
        return reckoned

    def attempt(self, edits, *, whole=True):
        """A tuple of EDITS is done; what each one told. BadEdit of no tuple, else as the first one refused."""
        if type(edits) is not tuple:
            raise BadEdit()
        self._log.append(("open", len(edits)))
        told = []
        try:
            for edit in edits:
                told.append(self.edit(edit))
        except TimingError:
            self._log.append(("shut", len(told)))
            if whole:
                for _ in told:
                    self.back()
            raise
        self._log.append(("shut", len(told)))
        return told

    def back(self):
        """The last EDIT done is taken back, and told; NothingDone."""
        if not self._done:
            raise NothingDone()
        edit, self._netlist, self._clock, self._arrivals = self._done.pop()
        return edit

    def edits(self):
        """A list of the EDITS done and not taken back."""
        return [done[0] for done in self._done]

    def log(self):
        """A list of ("open", how many EDITS), ("shut", how many were done) of each attempt."""
        return list(self._log)

    def netlist(self):
        """The NETLIST."""
        return self._netlist

    def clock(self):
        """The CLOCK."""
        return self._clock

    def arrivals(self, name, *, corner=0):
        """The ARRIVALS of a START or GATE at a CORNER; NoSignal, NoCorner."""
        need_signal(self._netlist, name)
        need_corner(self._netlist, corner)
        return self._arrivals[name][corner]

    def worst(self, check):
        """The first ROW of a CHECK, or None; BadCheck."""
        return worst(self._netlist, self._clock, check)

    def slacks(self):
        """A dict of all CHECKS, rising, with their SLACKS or None."""
        return slacks_of(self._netlist, self._clock)

    def failing(self, *, under=0):
        """A rising list of (SLACK, CHECK) of the SLACKS below under."""
        return failing(self._netlist, self._clock, under=under)

    def changed(self):
        """A rising list of (CHECK, AHEAD, BEHIND) of the SLACKS that the last one of edits() made others."""
        if not self._done:
            return []
        netlist, clock = self._done[-1][1:3]
        ahead = slacks_of(netlist, clock)
        behind = self.slacks()
        return [(check, ahead[check], behind[check]) for check in ahead if ahead[check] != behind[check]]

    def twin(self):
        """A Bench alike, which goes on by itself."""
        twin = Bench(self._netlist, self._clock)
        twin._done = list(self._done)
        twin._log = list(self._log)
        return twin

    def __len__(self):
        return len(self._done)

    def __eq__(self, other):
        return isinstance(other, Bench) and self._netlist == other._netlist and self._clock == other._clock
