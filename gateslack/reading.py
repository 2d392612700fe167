"""Texts read back word by word, line by line; BadText tells of the first word that isn't so."""

from gateslack.errors import BadText
from gateslack.netlist import KINDS, MOST_CORNERS, MOST_STARTS, bounds_of_pins, need_netlist
from gateslack.words import LONGEST_PERIOD, MOST, MOST_SKEW, MOST_SKEWS, is_name, number_in

FIRST = 1
BAR = "/"
LEAST_OF_PATH = 2


class Line:
    """The words of one line, taken one behind the other."""

    def __init__(self, number, words, taken=0):
        self.number = number
        self.words = words
        self.taken = taken

    def ahead(self):
        """The next word; None behind the last one."""
        return self.words[self.taken] if self.taken < len(self.words) else None

    def need(self, is_so):
        """None where the next word, or that there is none, is so; else BadText of it."""
        if not is_so:
            raise BadText(self.number, self.taken + 1)

    def need_end(self):
        """None behind the last word; else BadText of the next one."""
        self.need(self.ahead() is None)

    def take_one_of(self, words):
        """The next word, which is to be one of these."""
        word = self.ahead()
        self.need(word in words)
        self.taken += 1
        return word

    def take_name(self):
        """The next word, which is to be a NAME."""
        word = self.ahead()
        self.need(is_name(word))
        self.taken += 1
        return word

    def take_number(self, least, most):
        """The number that the next word is to write, from least to most."""
        number = number_in(self.ahead(), least=least, most=most)
        self.need(number is not None)
        self.taken += 1
        return number

    def take_names(self, least, most):
        """A tuple of the next words up to a bar or the end, least to most NAMES."""
        names = []
        while len(names) < least or len(names) < most and self.ahead() not in (BAR, None):
            names.append(self.take_name())
        return tuple(names)


def read_pair(line):
    """(EARLY, LATE) of one CORNER, behind a bar."""
    line.take_one_of((BAR,))
    early = line.take_number(0, MOST)
    return (early, line.take_number(early, MOST))


def read_delays(line):
    """DELAYS for one CORNER or more."""
    pairs = [read_pair(line)]
    while len(pairs) < MOST_CORNERS and line.ahead() is not None:
        pairs.append(read_pair(line))
    return tuple(pairs)


def read_kind_and_pins(line):
    """(KIND, PINS)."""
    kind = line.take_one_of(KINDS)
    least, most = bounds_of_pins(kind)
    return (kind, line.take_names(least, most))


def read_checks(line):
    """(SETUP, HOLD, LOW, HIGH)."""
    setup = line.take_number(0, MOST)
    hold = line.take_number(0, MOST)
    low = line.take_number(-MOST, 0)
    return (setup, hold, low, line.take_number(0, MOST))


def read_input(line):
    """An INPUT behind its first word."""
    return line.take_name()


def read_gate(line):
    """A GATE behind its first word."""
    name = line.take_name()
    kind, pins = read_kind_and_pins(line)
    return (name, kind, pins, read_delays(line))


def read_register(line):
    """A REGISTER behind its first word."""
    name = line.take_name()
    data = line.take_name()
    return (name, data, *read_checks(line))


def read_output(line):
    """An OUTPUT behind its first word."""
    name = line.take_name()
    return (name, line.take_name())


# The first words of a NETLIST's lines in their order, and what reads on behind each.
HEADS = ("input", "gate", "register", "output")
ROW_READERS = (read_input, read_gate, read_register, read_output)


def read_period(line):
    """A PERIOD."""
    return line.take_number(1, LONGEST_PERIOD)


def read_skew(line):
    """A SKEW."""
    return line.take_number(-MOST_SKEW, MOST_SKEW)


def read_clock(line):
    """A CLOCK."""
    line.take_one_of(("clock",))
    period = read_period(line)
    skews = []
    while len(skews) < MOST_SKEWS and line.ahead() is not None:
        skews.append(read_skew(line))
    return (period, tuple(skews))


def read_new_delays(line):
    """The things of an EDIT of DELAYS behind its first word."""
    gate = line.take_name()
    return (gate, read_delays(line))


def read_new_gate(line):
    """The things of an EDIT of KIND and PINS behind its first word."""
    gate = line.take_name()
    return (gate, *read_kind_and_pins(line))


def read_new_data(line):
    """The things of an EDIT of DATA behind its first word."""
    end = line.take_name()
    return (end, line.take_name())


def read_new_checks(line):
    """The things of an EDIT of what a REGISTER checks behind its first word."""
    name = line.take_name()
    return (name, *read_checks(line))


def read_new_skew(line):
    """The things of an EDIT of a SKEW behind its first word."""
    name = line.take_name()
    return (name, read_skew(line))


def read_new_period(line):
    """The thing of an EDIT of the PERIOD behind its first word."""
    return (read_period(line),)


EDIT_READERS = {
    "delays": read_new_delays,
    "gate": read_new_gate,
    "data": read_new_data,
    "checks": read_new_checks,
    "skew": read_new_skew,
    "period": read_new_period,
}


def read_edit(line):
    """An EDIT."""
    word = line.take_one_of(list(EDIT_READERS))
    read_things = EDIT_READERS[word]
    return (word, *read_things(line))


def read_path(line):
    """A PATH, up to a bar or the end."""
    return line.take_names(LEAST_OF_PATH, len(line.words))


def read_value(line):
    """0, 1, or None, which stands as x."""
    word = line.take_one_of(("0", "1", "x"))
    return None if word == "x" else int(word)


def read_filling(line):
    """A FILLING, PARTIAL or not."""
    values = [read_value(line)]
    while len(values) < MOST_STARTS and line.ahead() is not None:
        values.append(read_value(line))
    return tuple(values)


def read_cases(line, asks_left=MOST_STARTS):
    """CASES with at most so many "ask" within one another."""
    word = line.take_one_of(("cut", "ask") if asks_left > 0 else ("cut",))
    name = line.take_name()
    if word == "cut":
        return (word, name, line.take_name())
    by_0 = read_cases(line, asks_left - 1)
    by_1 = read_cases(line, asks_left - 1)
    return (word, name, by_0, by_1)


def read_rule(line):
    """A RULE, up to a bar or the end."""
    word = line.take_one_of(("late", "early", "low", "high"))
    if word in ("low", "high"):
        return (word, line.take_name())
    corner = line.take_number(0, MOST_CORNERS - 1)
    return (word, read_path(line), corner)


def read_ring(line):
    """A RING."""
    rules = [read_rule(line)]
    while line.ahead() is not None:
        line.take_one_of((BAR,))
        rules.append(read_rule(line))
    return tuple(rules)


def words_in(row):
    """The words of a text that is taken as one line."""
    # Blanks that stand together part no empty words.
    return [word for word in row.split(" ") if word]


def lines_of(text, first):
    """All lines of a text, numbered from first, those without words too."""
    if type(text) is not str:
        raise BadText(0, 0)
    return [Line(first + at, words_in(row)) for at, row in enumerate(text.split("\n"))]


def whole_of(line, read):
    """What one line says, and nothing behind it."""
    thing = read(line)
    line.need_end()
    return thing


def only_of(text, first, read):
    """What the only line with words says."""
    lines = lines_of(text, first)
    written = [line for line in lines if line.words]
    if not written:
        raise BadText(first + len(lines), 1)
    thing = whole_of(written[0], read)
    if len(written) > 1:
        raise BadText(written[1].number, 1)
    return thing


def netlist_in(text, *, first=FIRST):
    """The NETLIST that a text says; BadText, then BadNetlist."""
    fours = ([], [], [], [])
    reached = 0
    for line in lines_of(text, first):
        if line.words:
            reached = HEADS.index(line.take_one_of(HEADS[reached:]))
            read_row = ROW_READERS[reached]
            fours[reached].append(whole_of(line, read_row))
    netlist = tuple([tuple(rows) for rows in fours])
    need_netlist(netlist)
    return netlist


def clock_in(text, *, first=FIRST):
    """The CLOCK that a text says; BadText."""
    return only_of(text, first, read_clock)


def edit_in(text, *, first=FIRST):
    """The EDIT that a text says; BadText."""
    return only_of(text, first, read_edit)


def edits_in(text, *, first=FIRST):
    """A tuple of the EDITS that a text says, in their order; BadText."""
    return tuple([whole_of(line, read_edit) for line in lines_of(text, first) if line.words])


def path_in(text, *, first=FIRST):
    """The PATH that a text says; BadText."""
    return only_of(text, first, read_path)


def filling_in(text, *, first=FIRST):
    """The FILLING that a text says, PARTIAL or not; BadText."""
    return only_of(text, first, read_filling)


def cases_in(text, *, first=FIRST):
    """The CASES that a text says; BadText."""
    return only_of(text, first, read_cases)


def ring_in(text, *, first=FIRST):
    """The RING that a text says; BadText."""
    return only_of(text, first, read_ring)
