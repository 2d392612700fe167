"""How the clocks of REGISTERS are best shifted: RULES, RINGS, the BEST SLACK and the LEAST PERIOD."""

from math import gcd, lcm

from gateslack.errors import BadClock, BadPaper
from gateslack.netlist import corners_of, is_one_of, is_tuple, names_of
from gateslack.slack import SIDES, is_period, sides_of, slack_at
from gateslack.truth import true_paths
from gateslack.words import is_name, is_whole

MOST_PERIOD = 99999
BOUNDS = ("low", "high")
# The one X, always 0, of all that are no REGISTERS; it is no NAME.
GROUND = ""


def need_period(period):
    """None of a PERIOD; BadClock of anything else."""
    if not is_period(period):
        raise BadClock()


def fraction_of(top, bottom):
    """The FRACTION of two whole numbers, the second one from 1."""
    common = gcd(top, bottom)
    return (top // common, bottom // common)


def path_rules_of(netlist):
    """All RULES of PATHS."""
    corners = range(corners_of(netlist))
    paths = true_paths(netlist)
    return [(side, path, corner) for path in paths for side in sides_of(netlist, path[-1]) for corner in corners]


def rules_of(netlist):
    """A rising list of all RULES."""
    bounds = [(word, row[0]) for row in netlist[2] for word in BOUNDS]
    return sorted(path_rules_of(netlist) + bounds)


def is_rule_by_form(thing):
    """Whether anything may be a RULE, by the kinds of its things alone."""
    if is_tuple(thing, 2, 2):
        return is_one_of(thing[0], BOUNDS) and is_name(thing[1])
    if not is_tuple(thing, 3, 3) or type(thing[1]) is not tuple:
        return False
    return is_one_of(thing[0], SIDES) and all([is_name(name) for name in thing[1]]) and is_whole(thing[2])


def is_rule(thing, rules):
    """Whether anything is one of these RULES."""
    # Told apart by their kinds first: True, too, is equal to a CORNER 1.
    return is_rule_by_form(thing) and thing in rules


def of_path(rule):
    """Whether a RULE is of a PATH."""
    return rule[0] in SIDES


def x_of(netlist, name):
    """The X of a START or END."""
    return name if name in names_of(netlist[2]) else GROUND


def xs_of(netlist, rule):
    """The two X of a RULE, the first one less the second one being bounded."""
    if rule[0] == "high":
        return (rule[1], GROUND)
    if rule[0] == "low":
        return (GROUND, rule[1])
    start = x_of(netlist, rule[1][0])
    end = x_of(netlist, rule[1][-1])
    return (start, end) if rule[0] == "late" else (end, start)


def number_at(netlist, rule, period):
    """The NUMBER of a RULE."""
    if of_path(rule):
        side, path, corner = rule
        # What stays of the SLACK where all SKEWS are 0.
        still = (period, tuple([0 for _ in netlist[2]]))
        return slack_at(netlist, still, path, side, corner)
    word, name = rule
    low, high = [row[4:] for row in netlist[2] if row[0] == name][0]
    return high if word == "high" else -low


def number_of(netlist, rule, *, period):
    """The NUMBER of a RULE; BadClock, BadPaper(()) of no RULE."""
    need_period(period)
    if not is_rule(rule, rules_of(netlist)):
        raise BadPaper(())
    return number_at(netlist, rule, period)


def is_fraction(thing):
    """Whether anything is a FRACTION."""
    if not is_tuple(thing, 2, 2) or type(thing[0]) is not int or type(thing[1]) is not int:
        return False
    return thing[1] >= 1 and gcd(thing[0], thing[1]) == 1


def is_within(fraction, low, high):
    """Whether a FRACTION is from low to high."""
    top, bottom = fraction
    return low * bottom <= top <= high * bottom


def are_skews(netlist, thing):
    """Whether anything is SKEWS: FRACTIONS, one for each REGISTER, from its LOW to its HIGH."""
    rows = netlist[2]
    if not is_tuple(thing, len(rows), len(rows)):
        return False
    return all([is_fraction(skew) and is_within(skew, row[4], row[5]) for skew, row in zip(thing, rows)])


def place_in_ring(netlist, thing):
    """The PLACE of what isn't so in anything, None of a RING."""
    if type(thing) is not tuple:
        return ()
    rules = rules_of(netlist)
    for number, rule in enumerate(thing):
        if not is_rule(rule, rules):
            return (number,)
    xs = [xs_of(netlist, rule) for rule in thing]
    for number, (ahead, behind) in enumerate(zip(xs, xs[1:] + xs[:1])):
        if ahead[1] != behind[0]:
            return (number,)
    # An empty one has none of a PATH either.
    return None if any([of_path(rule) for rule in thing]) else ()


def is_ring(netlist, thing):
    """Whether anything is a RING."""
    return place_in_ring(netlist, thing) is None


def mean_at(netlist, ring, period):
    """The MEAN of a RING."""
    total = sum([number_at(netlist, rule, period) for rule in ring])
    return fraction_of(total, len([rule for rule in ring if of_path(rule)]))


def mean_of(netlist, ring, *, period):
    """The MEAN of a RING; BadClock, BadPaper(PLACE) of no RING."""
    need_period(period)
    place = place_in_ring(netlist, ring)
    if place is not None:
        raise BadPaper(place)
    return mean_at(netlist, ring, period)


def slack_by(netlist, skews, *, period):
    """The SLACK by SKEWS, or None; BadClock of no PERIOD, of no SKEWS."""
    need_period(period)
    if not are_skews(netlist, skews):
        raise BadClock()
    bottom = 1
    for skew in skews:
        bottom = lcm(bottom, skew[1])
    xs = {row[0]: skew[0] * (bottom // skew[1]) for row, skew in zip(netlist[2], skews)}
    xs[GROUND] = 0
    tops = []
    for rule in path_rules_of(netlist):
        first, second = xs_of(netlist, rule)
        tops.append(number_at(netlist, rule, period) * bottom - xs[first] + xs[second])
    return fraction_of(min(tops), bottom) if tops else None


def least_by_xs(netlist, rules, period):
    """By the two X of RULES, of those that have them the least (NUMBER, RULE)."""
    found = {}
    for rule in rules:
        xs = xs_of(netlist, rule)
        row = (number_at(netlist, rule, period), rule)
        found[xs] = min(found.get(xs, row), row)
    return found


def joined(ahead, behind):
    """Two (sum of NUMBERS, RULES), one behind the other."""
    return (ahead[0] + behind[0], ahead[1] + behind[1])


def bounds_between(netlist):
    """By any two X, (sum of NUMBERS, RULES) that leads from one to the other by "low" and "high" alone."""
    to_ground = {GROUND: (0, ())}
    from_ground = {GROUND: (0, ())}
    for row in netlist[2]:
        to_ground[row[0]] = (row[5], (("high", row[0]),))
        from_ground[row[0]] = (-row[4], (("low", row[0]),))
    found = {}
    for first in to_ground:
        for second in from_ground:
            found[first, second] = (0, ()) if first == second else joined(to_ground[first], from_ground[second])
    return found


def least_steps(netlist, rules, period):
    """By two X, the least (sum of NUMBERS, RULES) that leads from one to the other, its last RULE alone of a PATH."""
    bounds = bounds_between(netlist)
    steps = {}
    for (middle, second), (number, rule) in least_by_xs(netlist, rules, period).items():
        for first in all_xs(netlist):
            step = joined(bounds[first, middle], (number, (rule,)))
            steps[first, second] = min(steps.get((first, second), step), step)
    return steps


def all_xs(netlist):
    """All X."""
    return [GROUND, *names_of(netlist[2])]


def one_step_more(ways, steps, xs):
    """By two X, the least way from one to the other that is one of these and a step behind it."""
    longer = {}
    for first, middle in ways:
        for second in xs:
            if (middle, second) in steps:
                way = joined(ways[first, middle], steps[middle, second])
                longer[first, second] = min(longer.get((first, second), way), way)
    return longer


def best_by(netlist, rules, period):
    """(BEST SLACK, a RING of which it is the MEAN), (None, None) without RULES of PATHS."""
    steps = least_steps(netlist, rules, period)
    ways = steps
    xs = all_xs(netlist)
    mean, ring = None, None
    # A ring of more steps than there are X comes to one twice, and a part of it has no greater MEAN.
    for many in range(1, len(xs) + 1):
        for first, second in ways:
            total, around = ways[first, second]
            if first == second and (mean is None or total * mean[1] < mean[0] * many):
                mean, ring = fraction_of(total, many), around
        ways = one_step_more(ways, steps, xs)
    return (mean, ring)


def skews_for(netlist, rules, period, mean):
    """SKEWS by which the SLACK is that FRACTION, the BEST SLACK; all 0 where it is None."""
    if mean is None:
        return tuple([(0, 1) for _ in netlist[2]])
    top, bottom = mean
    steps = least_steps(netlist, rules, period)
    bounds = bounds_between(netlist)
    # What each X is at most by any way to the ground; those with more steps than there are X bound it no further.
    xs = {name: bounds[name, GROUND][0] * bottom for name in all_xs(netlist)}
    for _ in range(len(xs)):
        for first, second in steps:
            xs[first] = min(xs[first], steps[first, second][0] * bottom - top + xs[second])
    return tuple([fraction_of(xs[row[0]], bottom) for row in netlist[2]])


def best_slack(netlist, *, period):
    """The BEST SLACK, a FRACTION or None; BadClock."""
    need_period(period)
    return best_by(netlist, path_rules_of(netlist), period)[0]


def best_paper(netlist, *, period):
    """A BEST PAPER; BadClock."""
    need_period(period)
    rules = path_rules_of(netlist)
    mean, ring = best_by(netlist, rules, period)
    return (skews_for(netlist, rules, period, mean), ring)


def is_below(netlist, rules, period):
    """Whether the BEST SLACK is below 0."""
    mean = best_by(netlist, rules, period)[0]
    return mean is not None and mean[0] < 0


def least_by(netlist, rules):
    """The LEAST PERIOD, or None."""
    if is_below(netlist, rules, MOST_PERIOD):
        return None
    least, most = 1, MOST_PERIOD
    # No NUMBER falls as the PERIOD rises, so it is below 0 up to some PERIOD, and by none from there on.
    while least < most:
        middle = (least + most) // 2
        if is_below(netlist, rules, middle):
            least = middle + 1
        else:
            most = middle
    return most


def least_period(netlist):
    """The LEAST PERIOD, or None."""
    return least_by(netlist, path_rules_of(netlist))


def period_paper(netlist):
    """A PERIOD PAPER."""
    rules = path_rules_of(netlist)
    period = least_by(netlist, rules)
    if period is None:
        return (None, None, best_by(netlist, rules, MOST_PERIOD)[1])
    mean = best_by(netlist, rules, period)[0]
    ring = None if period == 1 else best_by(netlist, rules, period - 1)[1]
    return (period, skews_for(netlist, rules, period, mean), ring)


def need_mean(netlist, ring, period, number):
    """The MEAN of a RING, the part of that number of a paper; BadPaper of no RING."""
    place = place_in_ring(netlist, ring)
    if place is not None:
        raise BadPaper((number, *place))
    return mean_at(netlist, ring, period)


def check_best(netlist, paper, *, period):
    """The BEST SLACK, or None, that a BEST PAPER shows; BadClock, BadPaper."""
    need_period(period)
    if not is_tuple(paper, 2, 2):
        raise BadPaper(())
    skews, ring = paper
    if not are_skews(netlist, skews):
        raise BadPaper((0,))
    slack = slack_by(netlist, skews, period=period)
    shown = None if ring is None else need_mean(netlist, ring, period, 1)
    if shown != slack:
        raise BadPaper((1,))
    return slack


def may_stand_by(netlist, skews, period):
    """Whether anything can be the SKEWS of a PERIOD PAPER of that PERIOD, or of None."""
    if period is None:
        return skews is None
    if not are_skews(netlist, skews):
        return False
    slack = slack_by(netlist, skews, period=period)
    return slack is None or slack[0] >= 0


def may_show(netlist, ring, period):
    """Whether anything can be the RING of a PERIOD PAPER of that PERIOD, or of None; BadPaper of no RING."""
    if period == 1:
        return ring is None
    shorter = MOST_PERIOD if period is None else period - 1
    return need_mean(netlist, ring, shorter, 2)[0] < 0


def check_period(netlist, paper):
    """The LEAST PERIOD, or None, that a PERIOD PAPER shows; BadPaper."""
    if not is_tuple(paper, 3, 3):
        raise BadPaper(())
    period, skews, ring = paper
    if period is not None and not is_period(period):
        raise BadPaper((0,))
    if not may_stand_by(netlist, skews, period):
        raise BadPaper((1,))
    if not may_show(netlist, ring, period):
        raise BadPaper((2,))
    return period
