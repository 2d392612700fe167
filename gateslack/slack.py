"""By how much signals come in time over TRUE PATHS: CLOCKS, CHECKS and their SLACKS."""

from gateslack.errors import BadCheck, BadClock, NoCorner
from gateslack.netlist import corners_of, ends_of, is_one_of, is_tuple, names_of
from gateslack.truth import need_path, true_paths
from gateslack.words import LONGEST_PERIOD, MOST_SKEW, is_whole

SIDES = ("early", "late")
MOST_ROWS = 20


def is_period(thing):
    """Whether anything is a PERIOD."""
    return is_whole(thing, least=1, most=LONGEST_PERIOD)


def are_clock_skews(netlist, thing):
    """Whether anything is the SKEWS of a CLOCK."""
    many = len(netlist[2])
    return is_tuple(thing, many, many) and all([is_whole(skew, least=-MOST_SKEW, most=MOST_SKEW) for skew in thing])


def is_clock(netlist, thing):
    """Whether anything is a CLOCK."""
    return is_tuple(thing, 2, 2) and is_period(thing[0]) and are_clock_skews(netlist, thing[1])


def need_clock(netlist, clock):
    """None of a CLOCK; BadClock of anything else."""
    if not is_clock(netlist, clock):
        raise BadClock()


def sides_of(netlist, end):
    """The SIDES on which an END is checked."""
    return SIDES if end in names_of(netlist[2]) else ("late",)


def is_corner(netlist, thing):
    """Whether anything is a CORNER's number."""
    return is_whole(thing, most=corners_of(netlist) - 1)


def need_corner(netlist, corner):
    """None of a CORNER's number; NoCorner of anything else."""
    if not is_corner(netlist, corner):
        raise NoCorner(corner)


def is_check(netlist, thing):
    """Whether anything is a CHECK."""
    if not is_tuple(thing, 3, 3):
        return False
    side, end, corner = thing
    if not is_one_of(end, ends_of(netlist)):
        return False
    return is_one_of(side, sides_of(netlist, end)) and is_corner(netlist, corner)


def need_check(netlist, check):
    """None of a CHECK; BadCheck of anything else."""
    if not is_check(netlist, check):
        raise BadCheck()


def checks_of(netlist):
    """A rising list of all CHECKS."""
    corners = range(corners_of(netlist))
    ends = ends_of(netlist)
    return sorted([(side, end, corner) for end in ends for side in sides_of(netlist, end) for corner in corners])


def delays_along(netlist, path, corner):
    """(EARLY, LATE) of a PATH at a CORNER."""
    delays = {gate[0]: gate[3][corner] for gate in netlist[1]}
    pairs = [delays[gate] for gate in path[1:-1]]
    return (sum([early for early, late in pairs]), sum([late for early, late in pairs]))


def delays_of(netlist, path, *, corner=0):
    """(EARLY, LATE) of a PATH at a CORNER; BadPath, NoCorner."""
    need_path(netlist, path)
    need_corner(netlist, corner)
    return delays_along(netlist, path, corner)


def needs_of(netlist, end):
    """(SETUP, HOLD) of an END; an OUTPUT has 0 of both, though its HOLD is never asked."""
    for row in netlist[2]:
        if row[0] == end:
            return (row[2], row[3])
    return (0, 0)


def slack_at(netlist, clock, path, side, corner):
    """The SLACK of a PATH, TRUE or not, on a SIDE of its END."""
    period, skews = clock
    skew_of = dict(zip(names_of(netlist[2]), skews))
    start_skew = skew_of.get(path[0], 0)
    end_skew = skew_of.get(path[-1], 0)
    early, late = delays_along(netlist, path, corner)
    setup, hold = needs_of(netlist, path[-1])
    if side == "early":
        return start_skew + early - end_skew - hold
    return end_skew + period - setup - start_skew - late


def slack_along(netlist, clock, path, *, side="late", corner=0):
    """The SLACK of a PATH, TRUE or not; BadClock, BadPath, BadCheck of no SIDE of its END, NoCorner."""
    need_clock(netlist, clock)
    need_path(netlist, path)
    if not is_one_of(side, sides_of(netlist, path[-1])):
        raise BadCheck()
    need_corner(netlist, corner)
    return slack_at(netlist, clock, path, side, corner)


def rows_along(netlist, clock, check, paths):
    """A rising list of (SLACK, PATH), at a CHECK, of those of these PATHS that lead to its END."""
    side, end, corner = check
    return sorted([(slack_at(netlist, clock, path, side, corner), path) for path in paths if path[-1] == end])


def all_rows(netlist, clock, check):
    """All ROWS of a CHECK; BadClock, BadCheck."""
    need_clock(netlist, clock)
    need_check(netlist, check)
    return rows_along(netlist, clock, check, true_paths(netlist, end=check[1]))


def rows_of(netlist, clock, check, *, up_to=MOST_ROWS):
    """A list of the first so many ROWS of a CHECK; BadClock, BadCheck."""
    return all_rows(netlist, clock, check)[: max(up_to, 0)]


def worst(netlist, clock, check):
    """The first ROW of a CHECK, or None; BadClock, BadCheck."""
    rows = all_rows(netlist, clock, check)
    return rows[0] if rows else None


def first_rows(netlist, clock, checks):
    """The first ROW, or None, of each of these CHECKS."""
    paths = true_paths(netlist)
    found = {}
    for check in checks:
        rows = rows_along(netlist, clock, check, paths)
        found[check] = rows[0] if rows else None
    return found


def checks_at(netlist, side, corner):
    """A rising list of the CHECKS of that SIDE, at that CORNER, where they are told."""
    checks = checks_of(netlist)
    return [check for check in checks if side in (None, check[0]) and corner in (None, check[2])]


def slacks_of(netlist, clock, *, corner=None):
    """A dict of all CHECKS, of that CORNER if told, rising, with their SLACKS or None; BadClock, NoCorner."""
    need_clock(netlist, clock)
    if corner is not None:
        need_corner(netlist, corner)
    rows = first_rows(netlist, clock, checks_at(netlist, None, corner))
    return {check: None if rows[check] is None else rows[check][0] for check in rows}


def least_of(netlist, clock, *, side=None, corner=None):
    """(SLACK, CHECK, PATH) of the least SLACK, or None; BadClock, BadCheck of no SIDE, NoCorner."""
    need_clock(netlist, clock)
    if side is not None and not is_one_of(side, SIDES):
        raise BadCheck()
    if corner is not None:
        need_corner(netlist, corner)
    rows = first_rows(netlist, clock, checks_at(netlist, side, corner))
    found = [(rows[check][0], check, rows[check][1]) for check in rows if rows[check] is not None]
    return min(found) if found else None


def failing(netlist, clock, *, under=0):
    """A rising list of (SLACK, CHECK) of the SLACKS below under; BadClock."""
    slacks = slacks_of(netlist, clock)
    return sorted([(slacks[check], check) for check in slacks if slacks[check] is not None and slacks[check] < under])


def period_needed(netlist, skews):
    """The PERIOD NEEDED by a CLOCK's SKEWS; BadClock of what are none."""
    least = least_of(netlist, (1, skews), side="late")
    # A LATE SLACK grows with the PERIOD, by as much.
    return 1 if least is None else max(1, 1 - least[0])
