import unittest

from bywords import all_checks, all_true, corners, rows_by_words, sides, slack_by_words
from gateslack import slack
from gateslack.errors import BadCheck, BadClock, BadPath, NoCorner
from gateslack.netlist import paths_of
from gateslack.slack import MOST_ROWS, SIDES, checks_of, delays_of, failing, is_check, is_clock, least_of, need_clock
from gateslack.slack import period_needed, rows_of, slack_along, slacks_of, worst
from samples import CLOCK, D, Equal, GOOD, HALF_TRUE, NO_ENDS, NO_GATES, NO_REGISTERS, NO_TRUE, SIXTY, SIX_STARTS
from samples import THREE, deep, no_checks, no_clocks, no_corners, no_names, no_tuples, no_wholes, random_clock
from samples import some_netlists

AROUND = ("r", "g", "h", "r")
# No GATE ahead of o: all of its SLACKS are alike.
ALIKE = (("a", "b"), (("g", "xor", ("a", "b"), ((4, 4), (4, 4))),), (), (("o", "g"), ("p", "g")))


class RefusingTest(unittest.TestCase):
    def need_refused(self, error, ask):
        with self.assertRaises(error) as refused:
            ask()
        self.assertIs(type(refused.exception), error)
        return refused.exception

    def need_no_corner(self, corner, ask):
        self.assertIs(self.need_refused(NoCorner, ask).number, corner)


class ClockTest(RefusingTest):
    def test_clocks(self):
        for netlist, clock in (
            (GOOD, CLOCK),
            (GOOD, (1, (-9999, 9999))),
            (GOOD, (99999, (0, 0))),
            (NO_REGISTERS, (1, ())),
            (THREE, (7, (31, -11))),
        ):
            self.assertIs(is_clock(netlist, clock), True)
            self.assertIsNone(need_clock(netlist=netlist, clock=clock))

    def test_what_is_none(self):
        for thing in no_clocks():
            self.assertIs(is_clock(netlist=GOOD, thing=thing), False)
            self.need_refused(BadClock, lambda: need_clock(GOOD, thing))
        self.assertIs(is_clock(NO_REGISTERS, CLOCK), False)

    def test_no_clock_is_refused_ahead_of_all_else(self):
        for thing in no_clocks():
            for ask in (
                lambda: slack_along(GOOD, thing, 5, side=5, corner=5),
                lambda: rows_of(GOOD, thing, 5),
                lambda: rows_of(GOOD, thing, ("late", "r", 0), up_to=0),
                lambda: worst(GOOD, thing, 5),
                lambda: slacks_of(GOOD, thing, corner=5),
                lambda: least_of(GOOD, thing, side=5, corner=5),
                lambda: failing(GOOD, thing),
            ):
                self.need_refused(BadClock, ask)


class CheckTest(RefusingTest):
    def test_all_checks(self):
        for netlist in some_netlists():
            told = checks_of(netlist=netlist)
            self.assertEqual(told, all_checks(netlist))
            self.assertEqual([is_check(netlist=netlist, thing=check) for check in told], [True] * len(told))

    def test_edges(self):
        self.assertEqual(checks_of(NO_ENDS), [])
        self.assertEqual(checks_of(NO_GATES), [("early", "r", 0), ("late", "r", 0)])
        self.assertEqual(len(checks_of(THREE)), 15)
        self.assertEqual(checks_of(NO_REGISTERS), [("late", end, corner) for end in ("o", "p") for corner in (0, 1)])

    def test_what_is_none(self):
        for thing in no_checks():
            self.assertIs(is_check(GOOD, thing), False)
            self.need_refused(BadCheck, lambda: rows_of(GOOD, CLOCK, thing))
            self.need_refused(BadCheck, lambda: worst(GOOD, CLOCK, thing))

    def test_names_stand_here(self):
        self.assertEqual((SIDES, MOST_ROWS), (("early", "late"), 20))
        self.assertIs(slack.SIDES, SIDES)


class AlongTest(RefusingTest):
    def test_delays(self):
        self.assertEqual(delays_of(GOOD, AROUND), (4, 6))
        self.assertEqual(delays_of(netlist=GOOD, path=AROUND, corner=1), (2, 6))
        self.assertEqual(delays_of(GOOD, ("r", "g", "h", "k", "o"), corner=1), (9, 13))
        self.assertEqual(delays_of(GOOD, ("s", "s"), corner=1), (0, 0))
        self.assertEqual(delays_of(NO_GATES, ("a", "r")), (0, 0))
        self.assertEqual([delays_of(THREE, ("r", "g", "s"), corner=at) for at in range(3)], [(3, 5), (1, 2), (4, 9)])

    def test_slacks(self):
        self.assertEqual(slack_along(GOOD, CLOCK, ("a", "g", "h", "r")), 96)
        self.assertEqual(slack_along(GOOD, CLOCK, ("a", "g", "h", "r"), side="early"), -2)
        self.assertEqual(slack_along(GOOD, CLOCK, ("a", "g", "h", "r"), side="early", corner=1), -4)
        self.assertEqual(slack_along(GOOD, CLOCK, AROUND), 91)
        self.assertEqual(slack_along(netlist=GOOD, clock=CLOCK, path=AROUND, side="early", corner=0), 3)
        self.assertEqual(slack_along(GOOD, CLOCK, ("r", "g", "h", "k", "o")), 80)
        self.assertEqual(slack_along(GOOD, CLOCK, ("r", "g", "h", "k", "o"), side="late", corner=1), 82)
        self.assertEqual(slack_along(GOOD, CLOCK, ("s", "s")), 100)
        self.assertEqual(slack_along(GOOD, CLOCK, ("s", "s"), side="early"), 0)

    def test_false_paths_have_slacks_too(self):
        self.assertEqual(slack_along(HALF_TRUE, (10, ()), ("a", "g", "h", "p")), -1)
        self.assertEqual(slack_along(NO_TRUE, (1, (0,)), ("a", "n", "y", "g", "r"), side="early"), 1)

    def test_by_the_words(self):
        for seed, netlist in enumerate(some_netlists()):
            clock = random_clock(netlist, seed)
            for path in paths_of(netlist):
                for corner in corners(netlist):
                    told = [slack_by_words(netlist, 0, (0,) * len(netlist[2]), path, "late", corner)]
                    early, late = delays_of(netlist, path, corner=corner)
                    setup = {row[0]: row[2] for row in netlist[2]}.get(path[-1], 0)
                    self.assertEqual([-late - setup], told)
                    self.assertTrue(early <= late)
                    for side in sides(netlist, path[-1]):
                        good = slack_by_words(netlist, *clock, path, side, corner)
                        self.assertEqual(slack_along(netlist, clock, path, side=side, corner=corner), good)

    def test_low_and_high_bind_nothing(self):
        self.assertEqual(slack_along(GOOD, (5, (9999, 0)), ("a", "g", "h", "r")), 9995)
        self.assertEqual(slack_along(GOOD, (99999, (0, -9999)), ("s", "s")), 99999)

    def test_no_paths(self):
        for path in no_tuples() + [(), ("a", "r"), AROUND[1:], list(AROUND), ("a", "zzzz"), deep(), (Equal(),) * 2]:
            self.need_refused(BadPath, lambda: delays_of(GOOD, path, corner=9))
            self.need_refused(BadPath, lambda: slack_along(GOOD, CLOCK, path, side=9, corner=9))

    def test_no_sides(self):
        for side in no_names() + ["o", "r", "lately"]:
            self.need_refused(BadCheck, lambda: slack_along(GOOD, CLOCK, AROUND, side=side, corner=9))
        for path in (("a", "p"), ("a", "k", "o")):
            self.need_refused(BadCheck, lambda: slack_along(GOOD, CLOCK, path, side="early", corner=9))

    def test_no_corners(self):
        for corner in no_corners():
            self.need_no_corner(corner, lambda: delays_of(GOOD, AROUND, corner=corner))
            self.need_no_corner(corner, lambda: slack_along(GOOD, CLOCK, AROUND, corner=corner))
        self.need_no_corner(1, lambda: delays_of(NO_GATES, ("a", "r"), corner=1))

    def test_handed_in_by_their_names_alone(self):
        for ask in (
            lambda: delays_of(GOOD, AROUND, 0),
            lambda: slack_along(GOOD, CLOCK, AROUND, "late"),
            lambda: rows_of(GOOD, CLOCK, ("late", "r", 0), 3),
            lambda: slacks_of(GOOD, CLOCK, 0),
            lambda: least_of(GOOD, CLOCK, "late"),
            lambda: failing(GOOD, CLOCK, 0),
        ):
            self.assertRaises(TypeError, ask)


class RowTest(RefusingTest):
    def test_rows(self):
        rows = [(91, AROUND), (96, ("a", "g", "h", "r"))]
        self.assertEqual(rows_of(GOOD, CLOCK, ("late", "r", 0)), rows)
        self.assertEqual(rows_of(GOOD, CLOCK, ("late", "r", 0), up_to=1), rows[:1])
        self.assertEqual(rows_of(netlist=GOOD, clock=CLOCK, check=("late", "r", 0), up_to=0), [])
        self.assertEqual(rows_of(GOOD, CLOCK, ("late", "r", 0), up_to=99999), rows)
        self.assertEqual(worst(netlist=GOOD, clock=CLOCK, check=("late", "r", 0)), rows[0])
        self.assertEqual(worst(GOOD, CLOCK, ("early", "r", 1)), (-4, ("a", "g", "h", "r")))

    def test_true_paths_alone(self):
        clock = (10, ())
        self.assertEqual(worst(HALF_TRUE, clock, ("late", "p", 0)), (-1, ("b", "g", "h", "p")))
        self.assertEqual(rows_of(HALF_TRUE, clock, ("late", "p", 0))[1:], [(6, ("b", "h", "p"))])

    def test_no_rows(self):
        for check in checks_of(NO_TRUE):
            self.assertEqual(rows_of(NO_TRUE, (1, (0,)), check), [])
            self.assertIsNone(worst(NO_TRUE, (1, (0,)), check))

    def test_by_the_words(self):
        for seed, netlist in enumerate(some_netlists()):
            clock = random_clock(netlist, seed)
            paths = all_true(netlist)
            for check in checks_of(netlist):
                rows = rows_by_words(netlist, clock, check, paths)
                self.assertEqual(rows_of(netlist, clock, check), rows[:20])
                self.assertEqual(rows_of(netlist, clock, check, up_to=len(rows) + 1), rows)
                self.assertEqual(rows_of(netlist, clock, check, up_to=2), rows[:2])
                self.assertEqual(worst(netlist, clock, check), rows[0] if rows else None)

    def test_twenty_of_more(self):
        rows = rows_of(SIXTY, (50, ()), ("late", "m", 0))
        self.assertEqual((len(rows), rows), (20, sorted(rows)))
        self.assertEqual(len(rows_of(SIXTY, (50, ()), ("late", "m", 0), up_to=60)), len(all_m()))

    def test_of_slacks_alike_the_least_path(self):
        self.assertEqual(worst(ALIKE, (9, ()), ("late", "o", 0)), (5, ("a", "g", "o")))
        self.assertEqual(rows_of(ALIKE, (9, ()), ("late", "o", 1)), [(5, ("a", "g", "o")), (5, ("b", "g", "o"))])


def all_m():
    """The TRUE PATHS of SIXTY to m."""
    return [path for path in all_true(SIXTY) if path[-1] == "m"]


class SlacksTest(RefusingTest):
    def test_slacks(self):
        good = {
            ("early", "r", 0): -2,
            ("early", "r", 1): -4,
            ("early", "s", 0): 0,
            ("early", "s", 1): 0,
            ("late", "o", 0): 80,
            ("late", "o", 1): 82,
            ("late", "p", 0): 100,
            ("late", "p", 1): 100,
            ("late", "r", 0): 91,
            ("late", "r", 1): 91,
            ("late", "s", 0): 100,
            ("late", "s", 1): 100,
        }
        told = slacks_of(GOOD, CLOCK)
        self.assertEqual(list(told.items()), list(good.items()))
        self.assertEqual(slacks_of(netlist=GOOD, clock=CLOCK, corner=None), good)
        for corner in (0, 1):
            own = [row for row in good.items() if row[0][2] == corner]
            self.assertEqual(list(slacks_of(GOOD, CLOCK, corner=corner).items()), own)

    def test_edges(self):
        self.assertEqual(slacks_of(NO_ENDS, (1, ())), {})
        self.assertEqual(set(slacks_of(NO_TRUE, (1, (0,))).values()), {None})
        self.assertEqual(slacks_of(NO_GATES, (1, (7,))), {("early", "r", 0): -7, ("late", "r", 0): 8})
        self.assertEqual(slacks_of(NO_GATES, (99999, (-9999,)), corner=0)["late", "r", 0], 90000)
        self.assertEqual([slacks_of(SIX_STARTS, (1, (0, 0)))["late", end, 0] for end in ("o", "p")], [-10, 1])

    def test_a_told_dict_is_the_askers_own(self):
        told = slacks_of(GOOD, CLOCK)
        ahead = dict(told)
        told.clear()
        self.assertEqual(slacks_of(GOOD, CLOCK), ahead)

    def test_by_the_words(self):
        for seed, netlist in enumerate(some_netlists()):
            clock = random_clock(netlist, seed)
            paths = all_true(netlist)
            rows = {check: rows_by_words(netlist, clock, check, paths) for check in all_checks(netlist)}
            slacks = {check: rows[check][0][0] if rows[check] else None for check in rows}
            self.assertEqual(list(slacks_of(netlist, clock).items()), list(slacks.items()))
            found = [(rows[check][0][0], check, rows[check][0][1]) for check in rows if rows[check]]
            self.assertEqual(least_of(netlist, clock), min(found, default=None))
            for side in (None, *SIDES):
                for corner in (None, *corners(netlist)):
                    own = [row for row in found if side in (None, row[1][0]) and corner in (None, row[1][2])]
                    self.assertEqual(least_of(netlist, clock, side=side, corner=corner), min(own, default=None))
            for under in (0, 1, -5, 40):
                own = sorted(row[:2] for row in found if row[0] < under)
                self.assertEqual(failing(netlist, clock, under=under), own)

    def test_no_corners(self):
        for corner in no_corners():
            if corner is not None:
                self.need_no_corner(corner, lambda: slacks_of(GOOD, CLOCK, corner=corner))
                self.need_no_corner(corner, lambda: least_of(GOOD, CLOCK, corner=corner))
                self.need_no_corner(corner, lambda: least_of(GOOD, CLOCK, side="late", corner=corner))
        self.need_no_corner(1, lambda: slacks_of(NO_ENDS, (1, ()), corner=1))


class LeastTest(RefusingTest):
    def test_least(self):
        first = ("a", "g", "h", "r")
        self.assertEqual(least_of(GOOD, CLOCK), (-4, ("early", "r", 1), first))
        self.assertEqual(least_of(GOOD, CLOCK, corner=0), (-2, ("early", "r", 0), first))
        self.assertEqual(least_of(GOOD, CLOCK, side="late"), (80, ("late", "o", 0), ("r", "g", "h", "k", "o")))
        told = least_of(netlist=GOOD, clock=CLOCK, side="late", corner=1)
        self.assertEqual(told, (82, ("late", "o", 1), ("r", "g", "h", "k", "o")))

    def test_of_slacks_alike_the_least_check_and_path(self):
        self.assertEqual(least_of(ALIKE, (4, ())), (0, ("late", "o", 0), ("a", "g", "o")))
        self.assertEqual(least_of(ALIKE, (4, ()), corner=1), (0, ("late", "o", 1), ("a", "g", "o")))

    def test_none(self):
        self.assertIsNone(least_of(NO_TRUE, (1, (0,))))
        self.assertIsNone(least_of(NO_ENDS, (1, ())))
        self.assertIsNone(least_of(NO_REGISTERS, (1, ()), side="early"))

    def test_no_sides(self):
        for side in no_names() + ["r", "lately"]:
            if side is not None:
                self.need_refused(BadCheck, lambda: least_of(GOOD, CLOCK, side=side))
                self.need_refused(BadCheck, lambda: least_of(GOOD, CLOCK, side=side, corner=9))


class FailingTest(RefusingTest):
    def test_failing(self):
        early = [(-4, ("early", "r", 1)), (-2, ("early", "r", 0))]
        zero = [(0, ("early", "s", 0)), (0, ("early", "s", 1))]
        self.assertEqual(failing(GOOD, CLOCK), early)
        self.assertEqual(failing(netlist=GOOD, clock=CLOCK, under=0), early)
        self.assertEqual(failing(GOOD, CLOCK, under=1), early + zero)
        self.assertEqual(failing(GOOD, CLOCK, under=-2), early[:1])
        self.assertEqual(failing(GOOD, CLOCK, under=-4), [])
        self.assertEqual(len(failing(GOOD, CLOCK, under=10**9)), 12)
        self.assertEqual((failing(NO_TRUE, (1, (0,)), under=99), failing(NO_ENDS, (1, ()))), ([], []))


class NeededTest(RefusingTest):
    def test_needed(self):
        self.assertEqual(period_needed(GOOD, (0, 0)), 15)
        self.assertEqual(period_needed(netlist=GOOD, skews=(5, -7)), 20)
        self.assertEqual(period_needed(GOOD, (-9, 0)), 18)
        self.assertEqual(period_needed(GOOD, (-9999, 9999)), 10008)
        self.assertEqual(period_needed(HALF_TRUE, ()), 14)
        for netlist, skews in ((NO_TRUE, (0,)), (NO_ENDS, ()), (NO_GATES, (9,))):
            self.assertEqual(period_needed(netlist, skews), 1)
        self.assertEqual(period_needed((("a",), (("g", "not", ("a",), D),), (), (("o", "g"),)), ()), 2)

    def test_by_the_words(self):
        for seed, netlist in enumerate(some_netlists()):
            skews = random_clock(netlist, seed)[1]
            period = period_needed(netlist, skews)
            self.assertGreaterEqual(period, 1)
            told = least_of(netlist, (period, skews), side="late")
            self.assertTrue(told is None or told[0] >= 0)
            if period > 1:
                self.assertLess(least_of(netlist, (period - 1, skews), side="late")[0], 0)

    def test_no_skews(self):
        for skew in no_wholes() + [10000, -10000, 10**5000, None]:
            self.need_refused(BadClock, lambda: period_needed(GOOD, (skew, 0)))
            self.need_refused(BadClock, lambda: period_needed(GOOD, (0, skew)))
        for thing in no_tuples() + [(), (0,), (0, 0, 0), [0, 0], ((0, 1), (0, 1)), CLOCK, deep()]:
            self.need_refused(BadClock, lambda: period_needed(GOOD, thing))


if __name__ == "__main__":
    unittest.main()
