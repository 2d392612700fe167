import random
import unittest
from fractions import Fraction

from bywords import all_rules, all_true, least_slack, mean_by_words, number_by_words, xs_by_words
from gateslack import skew
from gateslack.errors import BadClock, BadPaper
from gateslack.reading import ring_in
from gateslack.showing import ring_text
from gateslack.skew import MOST_PERIOD, are_skews, best_paper, best_slack, check_best, check_period, is_ring
from gateslack.skew import least_period, mean_of, number_of, period_paper, rules_of, slack_by
from samples import D, Equal, GOOD, HALF_TRUE, NO_ENDS, NO_GATES, NO_REGISTERS, NO_TRUE, SIXTY, SIX_STARTS, THREE
from samples import deep, no_names, no_tuples, no_wholes, some_netlists

# Around r and s, each fed by the other one.
PAIR = (
    (),
    (("g", "not", ("r",), ((1, 6),)), ("h", "not", ("s",), ((2, 9),))),
    (("r", "h", 2, 0, -5, 5), ("s", "g", 2, 1, -4, 3)),
    (),
)
TO_S = ("r", "g", "s")
TO_R = ("s", "h", "r")
ROUND = (("late", TO_S, 0), ("late", TO_R, 0))
# r comes from itself at once, but is to stay for 5.
HELD = ((), (), (("r", "r", 0, 5, -9, 9),), (("o", "r"),))


def no_periods():
    return no_wholes() + [0, -1, 100000, 10**5000, -(10**5000), "5", (5,), (5, (0, 0))]


def no_fractions():
    pairs = [(2, 2), (0, 2), (1, 0), (1, -1), (-1, -1), (4, -2), (0, 0), (0, -1), (6, 4), (10**5000, 10**5000)]
    others = pairs + no_tuples() + [(), (1,), (1, 1, 1), [0, 1], deep(), (Equal(), Equal()), 0]
    for thing in no_wholes():
        others += [(thing, 1), (0, thing)]
    return others


def no_skews():
    """Things that are no SKEWS of PAIR."""
    good = (0, 1)
    others = no_tuples() + [(), (good,), (good, good, good), [good, good], (0, 0), good, deep(), (Equal(), Equal())]
    for thing in no_fractions():
        others += [(thing, good), (good, thing)]
    for low, high in ((-6, 6), (-5 * 7 - 1, 5 * 7 + 1)):
        others += [((top, 1 if abs(top) == 6 else 7), good) for top in (low, high)]
    return others + [(good, (-5, 1)), (good, (4, 1)), (good, (-9, 2)), (good, (7, 2)), ((10**5000, 1), good)]


def no_rules():
    """Things that are no RULES of PAIR."""
    others = no_tuples() + [(), ("late", TO_S), ("late", TO_S, 0, 0), ("low",), ("low", "r", 0), ["late", TO_S, 0]]
    others += [("late", TO_S, corner) for corner in no_wholes() + [1, -1, 10**5000]]
    no_paths = no_tuples() + [(), ("r", "s"), ("r", "g"), list(TO_S), deep(), (Equal(),) * 3]
    others += [deep(), *[("early", path, 0) for path in no_paths]]
    for name in no_names() + ["g", "zzzz", ("r",)]:
        others += [("low", name), ("high", name), (name, "r"), (name, TO_S, 0), ("late", (*TO_S[:2], name), 0)]
    others += [(Equal(), "r"), ("late", Equal(), 0), (Equal(),) * 3]
    return others + [("low", TO_S, 0), ("late", "r"), ("early", "r", 0)]


def no_rings():
    """(PLACE, thing) of things that are no RINGS of PAIR."""
    late_s, late_r = ROUND
    low, high = ("low", "r"), ("high", "r")
    early_s, early_r = ("early", TO_S, 0), ("early", TO_R, 0)
    found = [((), thing) for thing in no_tuples() + [list(ROUND), dict.fromkeys(ROUND)]]
    found += [((), ()), ((), (low, high)), ((), (high, low)), ((), (high, ("low", "s"), ("high", "s"), low))]
    found += [((0,), (thing,)) for thing in no_rules()] + [((0,), (thing, 5)) for thing in no_rules()]
    found += [((1,), (late_s, thing, late_r)) for thing in no_rules()]
    found += [((2,), (*ROUND, thing)) for thing in no_rules()]
    found += [((0,), (late_s,)), ((0,), (low,)), ((0,), (late_s, late_s)), ((0,), (low, low)), ((0,), (late_s, high))]
    found += [((1,), (late_s, late_r, late_r)), ((2,), (late_s, late_r, late_s)), ((0,), (late_s, low, high))]
    found += [((0,), (early_s, late_r)), ((2,), (late_s, early_s, early_r)), ((1,), (low, late_s, low))]
    found += [((0,), (high, late_s, late_r)), ((4,), (low, late_s, late_r, high, ("low", "s")))]
    # What is no RULE is told ahead of what leads elsewhere.
    return found + [((2,), (late_s, late_s, None)), ((1,), (low, "high", low))]


def a_ring(rules, xs, dice):
    """A RING of these RULES by chance, or None."""
    ring = [dice.choice(rules)]
    while len(ring) < 30:
        ring.append(dice.choice([rule for rule in rules if xs[rule][0] == xs[ring[-1]][1]]))
        if xs[ring[-1]][1] == xs[ring[0]][0] and any(len(rule) == 3 for rule in ring):
            return tuple(ring)
    return None


class RefusingTest(unittest.TestCase):
    def need_bad_clock(self, ask):
        with self.assertRaises(BadClock) as refused:
            ask()
        self.assertIs(type(refused.exception), BadClock)

    def need_bad_paper(self, place, ask):
        with self.assertRaises(BadPaper) as refused:
            ask()
        told = (type(refused.exception), type(refused.exception.place), refused.exception.place)
        self.assertEqual(told, (BadPaper, tuple, place))

    def test_no_period_is_refused_ahead_of_all(self):
        for period in no_periods():
            for ask in (
                lambda: number_of(PAIR, 5, period=period),
                lambda: mean_of(PAIR, 5, period=period),
                lambda: slack_by(PAIR, 5, period=period),
                lambda: slack_by(PAIR, ((0, 1), (0, 1)), period=period),
                lambda: number_of(PAIR, ("low", "r"), period=period),
                lambda: mean_of(PAIR, ROUND, period=period),
                lambda: best_slack(PAIR, period=period),
                lambda: best_paper(PAIR, period=period),
                lambda: check_best(PAIR, 5, period=period),
            ):
                self.need_bad_clock(ask)

    def test_a_period_is_handed_in_by_its_name_alone(self):
        for ask in (number_of, mean_of, slack_by, check_best):
            self.assertRaises(TypeError, ask, PAIR, 5, 5)
        for ask in (best_slack, best_paper):
            self.assertRaises(TypeError, ask, PAIR, 5)
            self.assertRaises(TypeError, ask, PAIR)


class RuleTest(RefusingTest):
    def test_rules(self):
        self.assertEqual(rules_of(NO_TRUE), [("high", "r"), ("low", "r")])
        self.assertEqual((rules_of(NO_ENDS), skew.MOST_PERIOD, MOST_PERIOD), ([], 99999, 99999))
        rules = [("early", TO_S, 0), ("early", TO_R, 0), ("high", "r"), ("high", "s")]
        rules += [*ROUND, ("low", "r"), ("low", "s")]
        self.assertEqual(rules_of(netlist=PAIR), rules)
        self.assertEqual(rules_of(NO_REGISTERS)[2:], [("late", ("a", "p"), 0), ("late", ("a", "p"), 1)])
        self.assertEqual(rules_of(HALF_TRUE)[1], ("late", ("b", "g", "h", "p"), 0))

    def test_by_the_words(self):
        for netlist in some_netlists():
            rules = all_rules(netlist, all_true(netlist))
            self.assertEqual(rules_of(netlist), rules)
            for period in (1, 33, 99999):
                for rule in rules[::4]:
                    told = number_of(netlist, rule, period=period)
                    self.assertEqual((type(told), told), (int, number_by_words(netlist, rule, period)))

    def test_numbers(self):
        for rule, number in (
            (ROUND[0], 92),
            (ROUND[1], 89),
            (("early", TO_S, 0), 0),
            (("early", TO_R, 0), 2),
            (("low", "r"), 5),
            (("high", "r"), 5),
            (("low", "s"), 4),
            (("high", "s"), 3),
        ):
            self.assertEqual(number_of(netlist=PAIR, rule=rule, period=100), number)
        self.assertEqual(number_of(THREE, ("late", ("r", "g", "s"), 2), period=1), -10)
        self.assertEqual(number_of(NO_GATES, ("low", "r"), period=1), 0)

    def test_what_is_none(self):
        for thing in no_rules():
            self.need_bad_paper((), lambda: number_of(PAIR, thing, period=5))
        for rule in (("late", ("a", "g", "h", "p"), 0), ("early", ("b", "h", "p"), 0), ("low", "b")):
            self.need_bad_paper((), lambda: number_of(HALF_TRUE, rule, period=5))
        self.need_bad_paper((), lambda: number_of(THREE, ("late", ("r", "g", "s"), True), period=5))
        self.need_bad_paper((), lambda: number_of(THREE, ("late", ("r", "g", "s"), 3), period=5))


class RingTest(RefusingTest):
    def test_rings(self):
        late_s, late_r = ROUND
        low, high = ("low", "r"), ("high", "r")
        for ring, mean in (
            (ROUND, (1, 2)),
            (ROUND[::-1], (1, 2)),
            (ROUND * 2, (1, 2)),
            (ROUND * 30, (1, 2)),
            ((("early", TO_S, 0), ("early", TO_R, 0)), (1, 1)),
            ((late_s, ("early", TO_S, 0)), (1, 1)),
            ((("early", TO_R, 0), late_r), (1, 2)),
            ((low, late_s, ("high", "s")), (10, 1)),
            ((low, high, low, late_s, ("high", "s")), (20, 1)),
            ((("high", "s"), low, high, low, late_s), (20, 1)),
            ((("low", "s"), late_r, high), (8, 1)),
        ):
            self.assertIs(is_ring(netlist=PAIR, thing=ring), True)
            self.assertEqual(mean_of(netlist=PAIR, ring=ring, period=10), mean)
            self.assertEqual(ring_in(ring_text(ring)), ring)

    def test_rings_of_one_rule(self):
        self.assertEqual(mean_of(HELD, (("early", ("r", "r"), 0),), period=7), (-5, 1))
        self.assertEqual(mean_of(HELD, (("late", ("r", "r"), 0),) * 3, period=7), (7, 1))
        self.assertEqual(mean_of(NO_REGISTERS, (("late", ("a", "g", "o"), 1),), period=1), (-8, 1))
        both = (("late", ("a", "g", "o"), 1), ("late", ("a", "p"), 0))
        self.assertEqual(mean_of(NO_REGISTERS, both, period=9), (9, 2))
        self.assertIs(is_ring(HELD, (("late", ("r", "o"), 0),)), False)
        self.assertEqual(mean_of(HELD, (("late", ("r", "o"), 0), ("low", "r")), period=1), (10, 1))

    def test_by_the_words(self):
        dice = random.Random(5)
        found = 0
        for netlist in some_netlists():
            rules = all_rules(netlist, all_true(netlist))
            xs = {rule: xs_by_words(netlist, rule) for rule in rules}
            for _ in range(4 if any(len(rule) == 3 for rule in rules) else 0):
                ring = a_ring(rules, xs, dice)
                if ring is not None:
                    found += 1
                    self.assertIs(is_ring(netlist, ring), True)
                    told = mean_of(netlist, ring, period=40)
                    self.assertEqual(told, mean_by_words(netlist, ring, 40).as_integer_ratio())
        self.assertGreater(found, 100)

    def test_places(self):
        for place, thing in no_rings():
            self.assertIs(is_ring(PAIR, thing), False)
            self.need_bad_paper(place, lambda: mean_of(PAIR, thing, period=5))
        false = (("late", ("a", "g", "h", "p"), 0),)
        self.need_bad_paper((0,), lambda: mean_of(HALF_TRUE, false, period=5))
        self.assertIs(is_ring(HALF_TRUE, false), False)


class SkewsTest(RefusingTest):
    def test_skews(self):
        for skews in (
            ((0, 1), (0, 1)),
            ((-5, 1), (-4, 1)),
            ((5, 1), (3, 1)),
            ((34, 7), (-27, 7)),
            ((-1, 10**400), (10**400 - 1, 10**400)),
        ):
            self.assertIs(are_skews(netlist=PAIR, thing=skews), True)
        self.assertIs(are_skews(NO_GATES, ((0, 1),)), True)
        for skew_of_0 in ((0, -1), (0, 0), (0, 2)):
            self.assertIs(are_skews(NO_GATES, (skew_of_0,)), False)
        self.assertIs(are_skews(NO_REGISTERS, ()), True)
        self.assertIs(are_skews(NO_REGISTERS, ((0, 1),)), False)

    def test_what_are_none(self):
        for thing in no_skews():
            self.assertIs(are_skews(PAIR, thing), False)
            self.need_bad_clock(lambda: slack_by(PAIR, thing, period=5))

    def test_slacks(self):
        for skews, slack in (
            (((0, 1), (0, 1)), (-1, 1)),
            (((1, 2), (0, 1)), (-1, 2)),
            (((3, 2), (0, 1)), (1, 2)),
            (((4, 3), (-1, 7)), (10, 21)),
            (((2, 1), (0, 1)), (0, 1)),
            (((-5, 1), (3, 1)), (-9, 1)),
        ):
            self.assertEqual(slack_by(netlist=PAIR, skews=skews, period=10), slack)
        self.assertIsNone(slack_by(NO_TRUE, ((-5, 1),), period=1))
        self.assertIsNone(slack_by(NO_ENDS, (), period=1))

    def test_by_the_words(self):
        dice = random.Random(6)
        for netlist in some_netlists():
            paths = all_true(netlist)
            for period in (1, 25, 99999):
                told = []
                for row in netlist[2]:
                    bottom = dice.choice((1, 2, 3, 7))
                    told.append(Fraction(dice.randint(row[4] * bottom, row[5] * bottom), bottom))
                bounds = [[Fraction(row[at]) for row in netlist[2]] for at in (4, 5)]
                for chosen in (told, *bounds):
                    skews = tuple(each.as_integer_ratio() for each in chosen)
                    slack = least_slack(netlist, period, skews, paths)
                    good = None if slack is None else Fraction(slack).as_integer_ratio()
                    self.assertIs(are_skews(netlist, skews), True)
                    self.assertEqual(slack_by(netlist, skews, period=period), good)


class BestTest(RefusingTest):
    def test_best_slacks(self):
        told = [best_slack(PAIR, period=period) for period in (1, 9, 10, 11, 99)]
        self.assertEqual(told, [(-17, 2), (-1, 2), (1, 2), (1, 1), (1, 1)])
        self.assertEqual([best_slack(HELD, period=period) for period in (1, 99999)], [(-5, 1), (-5, 1)])
        self.assertEqual([best_slack(NO_GATES, period=period) for period in (1, 99999)], [(0, 1), (0, 1)])
        self.assertEqual(best_slack(NO_REGISTERS, period=1), (-8, 1))
        self.assertEqual(best_slack(netlist=THREE, period=99), (-2, 1))
        self.assertIsNone(best_slack(NO_TRUE, period=1))
        self.assertIsNone(best_slack(NO_ENDS, period=99999))

    def test_low_and_high_bind(self):
        # From a to r by 8, to be there at 5.
        netlist = (("a",), (("g", "not", ("a",), ((8, 8),)),), (("r", "g", 0, 0, -2, 1),), ())
        self.assertEqual([best_slack(netlist, period=period) for period in (1, 5, 12)], [(-6, 1), (-2, 1), (5, 1)])
        self.assertEqual(best_paper(netlist, period=5)[0], ((1, 1),))
        told = [best_slack(netlist, period=period) for period in (16, 17, 18, 19, 20, 99999)]
        self.assertEqual(told, [(8, 1), (17, 2), (9, 1), (19, 2), (10, 1), (10, 1)])
        self.assertEqual(best_paper(netlist, period=99)[0], ((-2, 1),))

    def test_papers_show_it(self):
        fractions = 0
        for netlist in some_netlists(60):
            paths = all_true(netlist)
            for period in (1, 20, 47, 99999):
                best = best_slack(netlist, period=period)
                paper = best_paper(netlist=netlist, period=period)
                skews, ring = paper
                self.assertIs(are_skews(netlist, skews), True)
                slack = least_slack(netlist, period, skews, paths)
                self.assertEqual(None if best is None else Fraction(*best), slack)
                self.assertEqual(check_best(netlist=netlist, paper=paper, period=period), best)
                if best is None:
                    self.assertEqual((ring, paths), (None, []))
                    continue
                # By its RING it can't be more, by its SKEWS it is as much.
                self.assertIs(is_ring(netlist, ring), True)
                self.assertEqual(mean_by_words(netlist, ring, period), slack)
                fractions += best[1] > 1
        self.assertGreater(fractions, 9)

    def test_no_ring_has_less(self):
        dice = random.Random(7)
        for netlist in some_netlists():
            rules = all_rules(netlist, all_true(netlist))
            xs = {rule: xs_by_words(netlist, rule) for rule in rules}
            best = best_slack(netlist, period=30)
            for _ in range(6 if best else 0):
                ring = a_ring(rules, xs, dice)
                if ring is not None:
                    self.assertLessEqual(Fraction(*best), mean_by_words(netlist, ring, 30))

    def test_places(self):
        skews, ring = good = best_paper(PAIR, period=10)
        other = (("early", TO_S, 0), ("early", TO_R, 0))
        self.assertEqual(check_best(PAIR, good, period=10), (1, 2))
        papers = [((), thing) for thing in no_tuples() + [(), (skews,), (skews, ring, ring), [skews, ring], deep()]]
        papers += [((0,), (thing, part)) for thing in no_skews() for part in (ring, None)]
        papers += [((1, *place), (skews, thing)) for place, thing in no_rings()]
        papers += [((1,), (skews, None)), ((1,), (skews, other)), ((1,), (((0, 1), (0, 1)), ring))]
        papers += [((1,), (((0, 1), (0, 1)), other)), ((0,), (None, None)), ((0,), (ring, skews))]
        for place, paper in papers:
            self.need_bad_paper(place, lambda: check_best(PAIR, paper, period=10))
        self.need_bad_paper((1,), lambda: check_best(PAIR, good, period=9))
        self.need_bad_paper((1,), lambda: check_best(PAIR, good, period=11))

    def test_other_skews_with_the_same_slack_show_it_too(self):
        skews, ring = best_paper(PAIR, period=10)
        self.assertEqual(check_best(PAIR, (((3, 2), (0, 1)), ring[::-1]), period=10), (1, 2))
        self.assertEqual(check_best(PAIR, (skews, ring * 3), period=10), (1, 2))

    def test_where_no_path_is_true(self):
        for skews in (((0, 1),), ((-5, 1),), ((9, 2),)):
            self.assertIsNone(check_best(NO_TRUE, (skews, None), period=3))
            self.need_bad_paper((1,), lambda: check_best(NO_TRUE, (skews, ()), period=3))
            self.need_bad_paper((1,), lambda: check_best(NO_TRUE, (skews, (("low", "r"), ("high", "r"))), period=3))
            self.need_bad_paper((1, 0), lambda: check_best(NO_TRUE, (skews, (("late", ("r", "o"), 0),)), period=3))
        self.need_bad_paper((0,), lambda: check_best(NO_TRUE, (((11, 2),), None), period=3))
        netlist = (*NO_TRUE[:3], ())
        self.assertIsNone(check_best(netlist, best_paper(netlist, period=3), period=3))
        self.assertEqual(check_period(netlist, period_paper(netlist)), 1)


class PeriodTest(RefusingTest):
    def test_least_periods(self):
        for netlist, period in ((PAIR, 10), (HELD, None), (NO_GATES, 1), (NO_REGISTERS, 9), (NO_TRUE, 1), (NO_ENDS, 1)):
            self.assertEqual(least_period(netlist=netlist), period)
            self.assertEqual(check_period(netlist=netlist, paper=period_paper(netlist=netlist)), period)
        self.assertIsNone(least_period(THREE))
        self.assertEqual(least_period((("a",), (("g", "not", ("a",), D),), (), (("o", "g"),))), 2)

    def test_papers_show_it(self):
        found = []
        for netlist in some_netlists(60):
            paths = all_true(netlist)
            period = least_period(netlist)
            found.append(period)
            paper = period_paper(netlist)
            self.assertEqual(paper[0], period)
            self.assertEqual(check_period(netlist, paper), period)
            if period is None:
                self.assertIsNone(paper[1])
                self.assertLess(mean_by_words(netlist, paper[2], 99999), 0)
                self.assertLess(best_slack(netlist, period=99999)[0], 0)
                continue
            slack = least_slack(netlist, period, paper[1], paths)
            self.assertTrue(slack is None or slack >= 0)
            if period == 1:
                self.assertIsNone(paper[2])
            else:
                self.assertLess(mean_by_words(netlist, paper[2], period - 1), 0)
                self.assertLess(best_slack(netlist, period=period - 1)[0], 0)
                self.assertGreaterEqual(best_slack(netlist, period=period)[0], 0)
        self.assertTrue(found.count(None) > 5 and found.count(1) > 3 and len(set(found)) > 15)

    def test_places(self):
        period, skews, ring = good = period_paper(PAIR)
        self.assertEqual((period, check_period(PAIR, good)), (10, 10))
        zeros = ((0, 1), (0, 1))
        papers = [((), thing) for thing in no_tuples() + [(), good[:2], (*good, ring), list(good), (None,) * 4]]
        papers += [((0,), (thing, skews, ring)) for thing in no_periods() if thing is not None]
        papers += [((0,), (thing, None, None)) for thing in (0, 100000, "none", True)]
        papers += [((1,), (10, thing, ring)) for thing in no_skews()]
        papers += [((1,), (10, zeros, ring)), ((1,), (9, skews, ring)), ((1,), (10, None, ring))]
        papers += [((1,), (1, skews, None)), ((1,), (1, skews, 0))]
        papers += [((2, *place), (10, skews, thing)) for place, thing in no_rings()]
        early = (("early", TO_S, 0), ("early", TO_R, 0))
        papers += [((2,), (10, skews, None)), ((2,), (10, skews, early))]
        papers += [((2,), (11, skews, ring)), ((2,), (11, zeros, ring)), ((2,), (99999, skews, ring))]
        papers += [((1,), (None, thing, ring)) for thing in (skews, zeros, (), 0, False, Equal())]
        papers += [((2,), (None, None, ring)), ((2,), (None, None, None)), ((2, 0), (None, None, ring[:1]))]
        papers += [((2, *place), (None, None, thing)) for place, thing in no_rings()[::5]]
        for place, paper in papers:
            self.need_bad_paper(place, lambda: check_period(PAIR, paper))

    def test_a_mean_of_0_is_not_below_0(self):
        period, skews, ring = period_paper(NO_REGISTERS)
        self.assertEqual((period, mean_of(NO_REGISTERS, ring, period=9)), (9, (0, 1)))
        self.need_bad_paper((2,), lambda: check_period(NO_REGISTERS, (10, skews, ring)))
        ring = (("early", ("a", "r"), 0), ("low", "r"))
        self.need_bad_paper((2,), lambda: check_period(NO_GATES, (None, None, ring)))

    def test_a_period_of_one(self):
        ring = (("late", ("a", "r"), 0), ("high", "r"))
        self.assertEqual(period_paper(NO_GATES), (1, ((0, 1),), None))
        self.assertEqual(check_period(NO_GATES, (1, ((0, 1),), None)), 1)
        self.assertIs(is_ring(NO_GATES, ring), True)
        for thing in (ring, (), 0, False, Equal(), ring[:1]):
            self.need_bad_paper((2,), lambda: check_period(NO_GATES, (1, ((0, 1),), thing)))
        self.need_bad_paper((2,), lambda: check_period(NO_GATES, (2, ((0, 1),), ring)))
        self.need_bad_paper((2,), lambda: check_period(NO_GATES, (2, ((0, 1),), None)))

    def test_where_no_path_is_true(self):
        self.assertEqual(check_period(NO_TRUE, (1, ((-5, 1),), None)), 1)
        self.need_bad_paper((2,), lambda: check_period(NO_TRUE, (2, ((0, 1),), None)))
        self.need_bad_paper((2,), lambda: check_period(NO_TRUE, (99999, ((0, 1),), (("low", "r"), ("high", "r")))))
        self.need_bad_paper((2,), lambda: check_period(NO_TRUE, (None, None, None)))

    def test_none(self):
        ring = (("early", ("r", "r"), 0),)
        self.assertEqual(period_paper(HELD), (None, None, ring))
        self.assertIsNone(check_period(HELD, (None, None, ring * 4)))
        for period in (1, 50, 99999):
            self.need_bad_paper((1,), lambda: check_period(HELD, (period, ((0, 1),), ring)))
        self.need_bad_paper((2,), lambda: check_period(HELD, (None, None, (("late", ("r", "r"), 0),))))

    def test_many_starts_and_paths(self):
        for netlist in (SIXTY, SIX_STARTS, GOOD):
            self.assertEqual(check_period(netlist, period_paper(netlist)), least_period(netlist))


if __name__ == "__main__":
    unittest.main()
