"""Papers that show the SLACKS of CHECKS: which PATH has it, and that none that would be worse is TRUE."""

from gateslack.errors import BadPaper
from gateslack.netlist import is_one_of, is_path, is_tuple, paths_of
from gateslack.slack import checks_of, is_check, need_check, need_clock, rows_along
from gateslack.truth import are_cases, cases_of, does_open, opening


def rows_to(netlist, clock, check):
    """A rising list of (SLACK, PATH), at a CHECK, of all PATHS to its END, TRUE or not."""
    return rows_along(netlist, clock, check, paths_of(netlist, end=check[1]))


def others_in(rows):
    """A rising list of the PATHS of (SLACK, PATH)."""
    return sorted([path for slack, path in rows])


def falses_of(netlist, rows):
    """The FALSES that tell of the PATHS of these (SLACK, PATH), all of them FALSE."""
    return tuple([(other, cases_of(netlist, other)) for other in others_in(rows)])


def paper_of(netlist, clock, check):
    """A SLACK PAPER of a CHECK."""
    rows = rows_to(netlist, clock, check)
    for number, (_, path) in enumerate(rows):
        filling = opening(netlist, path)
        if filling is not None:
            return ("worst", path, filling, falses_of(netlist, rows[:number]))
    return ("none", falses_of(netlist, rows))


def slack_paper(netlist, clock, check):
    """A SLACK PAPER of a CHECK; BadClock, BadCheck."""
    need_clock(netlist, clock)
    need_check(netlist, check)
    return paper_of(netlist, clock, check)


def has_word(paper, word, many):
    """Whether anything is a tuple of so many things, the first one that word."""
    return is_tuple(paper, many, many) and is_one_of(paper[0], (word,))


def is_false_by(netlist, other, pair):
    """Whether anything is a pair of that PATH and CASES of it."""
    # Only what is a PATH is compared: other things may call themselves equal to one.
    if not is_tuple(pair, 2, 2) or not is_path(netlist, pair[0]):
        return False
    return pair[0] == other and are_cases(netlist, other, pair[1])


def need_falses(netlist, falses, rows):
    """None of FALSES that tell of the PATHS of just these (SLACK, PATH); BadPaper."""
    if type(falses) is not tuple:
        raise BadPaper("falses")
    others = others_in(rows)
    for number, other in enumerate(others):
        if number >= len(falses) or not is_false_by(netlist, other, falses[number]):
            raise BadPaper(number)
    if len(falses) > len(others):
        raise BadPaper(len(others))


def shown_by(netlist, clock, check, paper):
    """(SLACK, PATH), or None, that a SLACK PAPER of a CHECK shows; BadPaper."""
    rows = rows_to(netlist, clock, check)
    if has_word(paper, "none", 2):
        need_falses(netlist, paper[1], rows)
        return None
    if not has_word(paper, "worst", 4):
        raise BadPaper(None)
    path, filling, falses = paper[1:]
    if not is_path(netlist, path) or path[-1] != check[1]:
        raise BadPaper("path")
    if not does_open(netlist, path, filling):
        raise BadPaper("filling")
    number = [row[1] for row in rows].index(path)
    need_falses(netlist, falses, rows[:number])
    return rows[number]


def check_slack(netlist, clock, check, paper):
    """(SLACK, PATH), or None, that a SLACK PAPER of a CHECK shows; BadClock, BadCheck, BadPaper."""
    need_clock(netlist, clock)
    need_check(netlist, check)
    return shown_by(netlist, clock, check, paper)


def report_paper(netlist, clock):
    """A REPORT; BadClock."""
    need_clock(netlist, clock)
    return tuple([(check, paper_of(netlist, clock, check)) for check in checks_of(netlist)])


def is_pair_of(netlist, check, pair):
    """Whether anything is a pair of that CHECK and anything else."""
    return is_tuple(pair, 2, 2) and is_check(netlist, pair[0]) and pair[0] == check


def check_report(netlist, clock, report):
    """A dict of all CHECKS, rising, with the SLACKS or None that a REPORT shows; BadClock, BadPaper."""
    need_clock(netlist, clock)
    if type(report) is not tuple:
        raise BadPaper(None)
    checks = checks_of(netlist)
    slacks = {}
    for number, check in enumerate(checks):
        if number >= len(report) or not is_pair_of(netlist, check, report[number]):
            raise BadPaper(number)
        try:
            shown = shown_by(netlist, clock, check, report[number][1])
        except BadPaper:
            # Which part of the SLACK PAPER isn't so is told by check_slack alone.
            raise BadPaper(number) from None
        slacks[check] = None if shown is None else shown[0]
    if len(report) > len(checks):
        raise BadPaper(len(checks))
    return slacks
