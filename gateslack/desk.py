"""A desk, which does and asks a BENCH by lines and answers each with a text."""

from gateslack.bench import Bench
from gateslack.errors import BadCheck, BadClock, BadEdit, BadFilling, BadLine, BadNetlist, BadPath, BadText
from gateslack.errors import NoCorner, NoEnd, NoSignal, NothingDone
from gateslack.netlist import order_of, paths_of
from gateslack.reading import EDIT_READERS, FIRST, Line, clock_in, netlist_in, read_edit, read_filling, read_path
from gateslack.reading import whole_of, words_in
from gateslack.showing import cases_text, clock_text, edit_text, edits_text, filling_text, fraction_text, in_words
from gateslack.showing import netlist_text, path_text, ring_text
from gateslack.skew import best_paper, best_slack, least_period
from gateslack.slack import SIDES, period_needed, slacks_of
from gateslack.truth import cases_of, opening, true_paths
from gateslack.values import decided_of

NOTHING = "none"
PARTING = ";"
BETWEEN_LINES = "; "
MOST_CORNER = 99


def in_row(words):
    """These words and numbers with a blank between two, "none" for None."""
    return in_words([NOTHING if word is None else word for word in words]) if words else NOTHING


def in_list(rows):
    """These texts with a comma between two."""
    return ", ".join(rows) if rows else NOTHING


def shown(show, thing):
    """What shows a thing, "none" of None."""
    return NOTHING if thing is None else show(thing)


def read_end(line):
    """A NAME, or None behind the last word."""
    return None if line.ahead() is None else line.take_name()


def read_number(line):
    """A CORNER's number."""
    return line.take_number(0, MOST_CORNER)


def read_corner(line):
    """A CORNER's number, or None behind the last word."""
    return None if line.ahead() is None else read_number(line)


def read_check(line):
    """A CHECK."""
    side = line.take_one_of(SIDES)
    name = line.take_name()
    return (side, name, read_number(line))


def read_name_at(line):
    """(NAME, a CORNER's number)."""
    name = line.take_name()
    return (name, read_number(line))


def read_attempt(line):
    """A tuple of EDITS, parted by ";"."""
    edits = []
    taken = line.taken
    ends = [at for at, word in enumerate(line.words) if word == PARTING]
    for end in [*ends, len(line.words)]:
        # A line of its own, whose words are numbered as they stand here.
        edits.append(whole_of(Line(line.number, line.words[:end], taken), read_edit))
        taken = end + 1
    return tuple(edits)


def do_edit(bench, line):
    """An EDIT is done: the GATES RECKONED."""
    return in_row(bench.edit(whole_of(line, read_edit)))


def do_all(bench, line):
    """A whole attempt: of each EDIT the GATES RECKONED."""
    return in_list([in_row(gates) for gates in bench.attempt(read_attempt(line))])


def do_each(bench, line):
    """An attempt that isn't whole: of each EDIT the GATES RECKONED."""
    return in_list([in_row(gates) for gates in bench.attempt(read_attempt(line), whole=False)])


def do_back(bench, line):
    """An EDIT is taken back: its line."""
    line.need_end()
    return edit_text(bench.back())


def tell_edits(bench, line):
    """The lines of the EDITS done and not taken back."""
    line.need_end()
    edits = bench.edits()
    return edits_text(edits, sign=BETWEEN_LINES) if edits else NOTHING


def tell_changed(bench, line):
    """The SLACKS that the last EDIT made others."""
    line.need_end()
    return in_list([in_row((*check, ahead, behind)) for check, ahead, behind in bench.changed()])


def tell_netlist(bench, line):
    """The lines of the NETLIST."""
    line.need_end()
    return netlist_text(bench.netlist(), sign=BETWEEN_LINES)


def tell_clock(bench, line):
    """The line of the CLOCK."""
    line.need_end()
    return clock_text(bench.clock())


def tell_order(bench, line):
    """The GATES in ORDER."""
    line.need_end()
    return in_row(order_of(bench.netlist()))


def tell_paths(bench, line):
    """All PATHS, to an END if told."""
    end = whole_of(line, read_end)
    return in_list([path_text(path) for path in paths_of(bench.netlist(), end=end)])


def tell_true(bench, line):
    """The TRUE PATHS, to an END if told."""
    end = whole_of(line, read_end)
    return in_list([path_text(path) for path in true_paths(bench.netlist(), end=end)])


def tell_opening(bench, line):
    """The least FILLING that OPENS a PATH."""
    path = whole_of(line, read_path)
    return shown(filling_text, opening(bench.netlist(), path))


def tell_cases(bench, line):
    """Some CASES of a PATH."""
    path = whole_of(line, read_path)
    return shown(cases_text, cases_of(bench.netlist(), path))


def tell_decided(bench, line):
    """What each START and GATE is DECIDED to be by a PARTIAL filling."""
    decided = decided_of(bench.netlist(), whole_of(line, read_filling))
    return in_list([in_row((name, decided[name])) for name in decided])


def tell_worst(bench, line):
    """The SLACK and the WORST PATH of a CHECK."""
    row = bench.worst(whole_of(line, read_check))
    return NOTHING if row is None else in_row((row[0], *row[1]))


def tell_slacks(bench, line):
    """The SLACKS of all CHECKS, at a CORNER if told."""
    corner = whole_of(line, read_corner)
    slacks = slacks_of(bench.netlist(), bench.clock(), corner=corner)
    return in_list([in_row((*check, slacks[check])) for check in slacks])


def tell_failing(bench, line):
    """The SLACKS below 0."""
    line.need_end()
    return in_list([in_row((slack, *check)) for slack, check in bench.failing()])


def tell_arrivals(bench, line):
    """The ARRIVALS of a START or GATE at a CORNER."""
    name, corner = whole_of(line, read_name_at)
    return in_row(bench.arrivals(name, corner=corner))


def tell_needed(bench, line):
    """The PERIOD NEEDED by the CLOCK's SKEWS."""
    line.need_end()
    return in_row((period_needed(bench.netlist(), bench.clock()[1]),))


def tell_best(bench, line):
    """The BEST SLACK by the CLOCK's PERIOD."""
    line.need_end()
    return shown(fraction_text, best_slack(bench.netlist(), period=bench.clock()[0]))


def tell_ring(bench, line):
    """The RING of a BEST PAPER."""
    line.need_end()
    return shown(ring_text, best_paper(bench.netlist(), period=bench.clock()[0])[1])


def tell_skews(bench, line):
    """The SKEWS of a BEST PAPER."""
    line.need_end()
    skews = best_paper(bench.netlist(), period=bench.clock()[0])[0]
    return in_row([fraction_text(skew) for skew in skews])


def tell_least(bench, line):
    """The LEAST PERIOD."""
    line.need_end()
    return in_row((least_period(bench.netlist()),))


# What answers a line behind its first word.
TELLERS = {
    "all": do_all,
    "each": do_each,
    "back": do_back,
    "edits": tell_edits,
    "changed": tell_changed,
    "netlist": tell_netlist,
    "clock": tell_clock,
    "order": tell_order,
    "paths": tell_paths,
    "true": tell_true,
    "opening": tell_opening,
    "cases": tell_cases,
    "decided": tell_decided,
    "worst": tell_worst,
    "slacks": tell_slacks,
    "failing": tell_failing,
    "arrivals": tell_arrivals,
    "needed": tell_needed,
    "best": tell_best,
    "ring": tell_ring,
    "skews": tell_skews,
    "least": tell_least,
}


def told_by(bench, text):
    """What a line tells; refused as it is read and as the BENCH is asked."""
    line = Line(FIRST, words_in(text))
    # An EDIT's first word is one of its things.
    if line.ahead() in EDIT_READERS:
        return do_edit(bench, line)
    tell = TELLERS[line.take_one_of(list(TELLERS))]
    return tell(bench, line)


def answer_of(bench, text):
    """The answer to a line, a refusal too."""
    try:
        return told_by(bench, text)
    except BadText as bad_text:
        return in_words(["bad word", bad_text.word])
    except BadEdit:
        return "bad edit"
    except BadClock:
        return "bad clock"
    except BadNetlist as bad_netlist:
        return in_words(["bad netlist", *bad_netlist.place])
    except NoSignal as no_signal:
        return in_words(["no signal", no_signal.name])
    except NoEnd as no_end:
        return in_words(["no end", no_end.name])
    except NoCorner as no_corner:
        return in_words(["no corner", no_corner.number])
    except BadPath:
        return "no path"
    except BadCheck:
        return "no check"
    except BadFilling:
        return "no filling"
    except NothingDone:
        return "nothing done"


class Desk:
    """A BENCH, and the lines that were said of it."""

    def __init__(self, netlist, clock):
        self._bench = Bench(netlist_in(netlist), clock_in(clock))
        self._lines = []

    def said(self, line):
        """The answer to a line; BadLine of what is no text."""
        if type(line) is not str:
            raise BadLine()
        self._lines.append(line)
        return answer_of(self._bench, line)

    def bench(self):
        """A Bench alike, which goes on by itself."""
        return self._bench.twin()

    def __len__(self):
        return len(self._lines)


def all_said(lines, *, netlist, clock):
    """A list of the answers of a new desk to a list of lines; BadText, BadNetlist, BadClock, then BadLine."""
    desk = Desk(netlist, clock)
    if type(lines) is not list:
        raise BadLine()
    return [desk.said(line) for line in lines]
