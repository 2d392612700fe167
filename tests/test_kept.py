import copy
import unittest

from gateslack.bench import Bench
from gateslack.desk import all_said
from gateslack.errors import BadCheck, BadClock, BadEdit, BadFilling, BadNetlist, BadPaper, BadPath, BadText
from gateslack.errors import NoEnd, NoSignal
from gateslack.likeness import halved, regated, renamed, repinned, turned, unlike_end
from gateslack.netlist import cone_of, corners_of, ends_of, fed_by, is_netlist, is_path, many_paths, need_netlist
from gateslack.netlist import order_of, paths_of, pins_of, starts_of
from gateslack.papers import check_report, check_slack, report_paper, slack_paper
from gateslack.reading import cases_in, clock_in, edit_in, edits_in, filling_in, netlist_in, path_in, ring_in
from gateslack.showing import cases_text, clock_text, edit_text, edits_text, filling_text, netlist_text, ring_text
from gateslack.skew import are_skews, best_paper, best_slack, check_best, check_period, is_ring, least_period
from gateslack.skew import mean_of, number_of, period_paper, rules_of, slack_by
from gateslack.slack import checks_of, delays_of, failing, is_check, is_clock, least_of, need_clock, period_needed
from gateslack.slack import rows_of, slack_along, slacks_of, worst
from gateslack.truth import are_cases, cases_of, does_open, is_true, need_cases, opening, openings, side_pins
from gateslack.truth import true_paths
from gateslack.values import decided_of, filling_for, fillings, hangs_on, need_filling, table_of, unlike_by
from gateslack.words import is_name, is_whole, number_in
from samples import BACKWARD, D, GOOD, SIXTY, THREE, random_netlist


def all_told(netlist):
    """All that the functions tell of a NETLIST."""
    told = [is_netlist(netlist), need_netlist(netlist), starts_of(netlist), ends_of(netlist), order_of(netlist)]
    told += [corners_of(netlist), many_paths(netlist), paths_of(netlist)]
    gates = order_of(netlist)
    told += [fed_by(netlist, name) for name in starts_of(netlist) + gates]
    told += [ask(netlist, name) for ask in (pins_of, cone_of) for name in gates + ends_of(netlist)]
    told += [paths_of(netlist, start=start) for start in starts_of(netlist)]
    told += [paths_of(netlist, end=end) for end in ends_of(netlist)]
    told += [is_path(netlist, path) for path in paths_of(netlist)]
    told += texts_told(netlist) + values_told(netlist) + truth_told(netlist) + slacks_told(netlist)
    return told + papers_told(netlist) + put_otherwise(netlist) + bench_told(netlist)


def texts_told(netlist):
    """What is shown of a NETLIST, and read back."""
    text = netlist_text(netlist)
    return [text, netlist_text(netlist, sign="; "), netlist_in(text), netlist_in(text, first=9)]


def values_told(netlist):
    """All that the values of a NETLIST are told by."""
    names = starts_of(netlist) + order_of(netlist)
    told = [fillings(netlist), [need_filling(netlist, filling) for filling in fillings(netlist)]]
    told += [ask(netlist, name) for ask in (table_of, hangs_on) for name in names]
    told += [unlike_by(netlist, names[0], name) for name in names]
    told += [filling_for(netlist, ((name, 1),)) for name in names]
    return told + [decided_of(netlist, filling) for filling in fillings(netlist)]


def truth_told(netlist):
    """All that is told of which PATHS are TRUE."""
    told = [true_paths(netlist)]
    for path in paths_of(netlist):
        told += [ask(netlist, path) for ask in (side_pins, openings, opening, is_true, cases_of)]
        told += [does_open(netlist, path, filling) for filling in fillings(netlist)[:3]]
        told.append(are_cases(netlist, path, cases_of(netlist, path)))
    return told


def slacks_told(netlist):
    """What is told of SLACKS and SKEWS by a CLOCK."""
    clock = (20, tuple([3] * len(netlist[2])))
    told = [is_clock(netlist, clock), slacks_of(netlist, clock), least_of(netlist, clock), failing(netlist, clock)]
    told += [rows_of(netlist, clock, check) for check in checks_of(netlist)]
    told += [worst(netlist, clock, check) for check in checks_of(netlist)]
    told += [(delays_of(netlist, path), slack_along(netlist, clock, path)) for path in paths_of(netlist)]
    told += [period_needed(netlist, clock[1]), rules_of(netlist), best_slack(netlist, period=20), least_period(netlist)]
    told += [number_of(netlist, rule, period=20) for rule in rules_of(netlist)]
    best = best_paper(netlist, period=20)
    told += [best, check_best(netlist, best, period=20), slack_by(netlist, best[0], period=20)]
    return told + [period_paper(netlist), check_period(netlist, period_paper(netlist))]


def papers_told(netlist):
    """SLACK PAPERS and a REPORT, and what they show."""
    clock = (20, tuple([3] * len(netlist[2])))
    papers = {check: slack_paper(netlist, clock, check) for check in checks_of(netlist)}
    told = [papers, [check_slack(netlist, clock, check, papers[check]) for check in papers]]
    return told + [report_paper(netlist, clock), check_report(netlist, clock, report_paper(netlist, clock))]


def put_otherwise(netlist):
    """NETLISTS put otherwise."""
    names = {name: f"{name}x" for name in [*netlist[0], *[row[0] for rows in netlist[1:] for row in rows]]}
    told = [renamed(netlist, names), regated(netlist, order_of(netlist)), unlike_end(netlist, netlist)]
    for name, kind, pins, _ in netlist[1]:
        told.append(repinned(netlist, name))
        told += [halved(netlist, name, "zzzz")] if len(pins) == 3 else []
        told += [turned(netlist, name, "zzzz")] if kind in ("and", "or", "nand", "nor") else []
    return told


def bench_told(netlist):
    """What a bench and a desk tell by some EDITS and lines."""
    clock = (20, tuple([3] * len(netlist[2])))
    bench = Bench(netlist, clock)
    told = [bench.attempt((("period", 30), ("period", 40))), bench.changed(), bench.back(), bench.edits(), bench.log()]
    told += [bench.slacks(), bench.failing(under=30), len(bench), len(bench.twin()), bench == bench.twin()]
    told += [bench.netlist(), bench.clock(), bench.arrivals(starts_of(netlist)[0])]
    lines = ["period 7", "all period 5 ; period 4", "edits", "changed", "slacks", "failing"]
    lines += ["best", "ring", "skews", "least"]
    return told + all_said(lines, netlist=netlist_text(netlist), clock=clock_text(clock))


class HandedInTest(unittest.TestCase):
    def test_a_netlist_is_not_changed(self):
        for netlist in (GOOD, BACKWARD, SIXTY, THREE, random_netlist(7)):
            ahead = copy.deepcopy(netlist)
            all_told(netlist)
            self.assertEqual(netlist, ahead)

    def test_what_is_refused_is_not_changed(self):
        for thing in (
            [["a"], [], [], []],
            (["a", "b"], [], {}, []),
            (("a",), [["g", "not", ["a"], [[1, 2]]]], (), ()),
            (("a",), (["g", "not", ["a"], [[1, 2]]],), (), ()),
            (("a",), (("g", "not", ["a"], [[1, 2]]),), (), ()),
            (("a",), (("g", "not", ("a",), [[2, 1]]),), (), ()),
            (("a",), (), (["r", "a", 0, 0, 0, 0],), ()),
            (("a",), (), (), (["o", "a"],)),
        ):
            ahead = copy.deepcopy(thing)
            with self.assertRaises(BadNetlist):
                need_netlist(thing)
            self.assertIs(is_netlist(thing), False)
            self.assertEqual(thing, ahead)

    def test_other_things_are_not_changed(self):
        for thing in (["a", "o"], {"a": ["o"]}, (["a"], "o")):
            ahead = copy.deepcopy(thing)
            for ask in (pins_of, fed_by, cone_of):
                with self.assertRaises(NoSignal):
                    ask(GOOD, thing)
            with self.assertRaises(NoSignal):
                paths_of(GOOD, start=thing)
            with self.assertRaises(NoEnd):
                paths_of(GOOD, end=thing)
            self.assertEqual((is_path(GOOD, thing), is_name(thing), is_whole(thing)), (False, False, False))
            self.assertIsNone(number_in(thing))
            self.assertEqual(thing, ahead)

    def test_no_fillings_are_not_changed(self):
        for thing in (["a", 1], [("a", 1)], {"a": 1}, (["a", 1],), ([0], 0, 0, 0), [0, 0, 0, 0]):
            ahead = copy.deepcopy(thing)
            for ask in (need_filling, decided_of, filling_for):
                with self.assertRaises(BadFilling):
                    ask(GOOD, thing)
            with self.assertRaises(BadFilling):
                filling_for(GOOD, (), filling=thing)
            self.assertEqual(thing, ahead)

    def test_no_texts_are_not_changed(self):
        for thing in (["clock 5"], {"clock": 5}, bytearray(b"clock 5"), (["clock 5"],)):
            ahead = copy.deepcopy(thing)
            for read in (netlist_in, clock_in, edit_in, edits_in, path_in, filling_in, cases_in, ring_in):
                with self.assertRaises(BadText):
                    read(thing)
            self.assertEqual(thing, ahead)

    def test_no_papers_are_not_changed(self):
        path = ("a", "g", "h", "r")
        for thing in (["late", "r", 0], [path], {"a": [path]}, (["cut", "g", "a"],), ([0, 1], [0, 1]), [[], []]):
            ahead = copy.deepcopy(thing)
            for error, ask in (
                (BadPath, lambda: is_true(GOOD, thing)),
                (BadPaper, lambda: need_cases(GOOD, path, thing)),
                (BadClock, lambda: need_clock(GOOD, thing)),
                (BadCheck, lambda: worst(GOOD, (5, (0, 0)), thing)),
                (BadClock, lambda: period_needed(GOOD, thing)),
                (BadPaper, lambda: number_of(GOOD, thing, period=5)),
                (BadPaper, lambda: mean_of(GOOD, thing, period=5)),
                (BadClock, lambda: slack_by(GOOD, thing, period=5)),
                (BadPaper, lambda: check_best(GOOD, thing, period=5)),
                (BadPaper, lambda: check_best(GOOD, (((0, 1), (0, 1)), thing), period=5)),
                (BadPaper, lambda: check_period(GOOD, thing)),
            ):
                self.assertRaises(error, ask)
            self.assertEqual((are_skews(GOOD, thing), is_ring(GOOD, thing), is_check(GOOD, thing)), (False,) * 3)
            self.assertEqual(thing, ahead)

    def test_what_a_bench_refuses_is_not_changed(self):
        bench = Bench(GOOD, (5, (0, 0)))
        for error, edit in (
            (BadEdit, ["period", 5]),
            (BadEdit, {"period": 5}),
            (BadEdit, (["period"], 5)),
            (BadClock, ("period", [5])),
            (BadClock, ("skew", "r", [5])),
            (BadNetlist, ("delays", "g", [(1, 2), (1, 2)])),
            (BadNetlist, ("delays", "g", ([1, 2], [1, 2]))),
            (BadNetlist, ("gate", "g", "and", ["a", "b"])),
            (BadNetlist, ("data", "r", ["g"])),
        ):
            ahead = copy.deepcopy(edit)
            self.assertRaises(error, bench.edit, edit)
            self.assertRaises(error, bench.attempt, (edit,))
            self.assertRaises(BadEdit, bench.attempt, [edit])
            self.assertEqual(edit, ahead)
        self.assertEqual(bench.edits(), [])

    def test_names_and_lines_are_not_changed_or_kept(self):
        names = {name: f"{name}x" for name in "abrsghkop"}
        lines = ["period 5", "back", "back"]
        ahead = (dict(names), list(lines))
        other = renamed(GOOD, names)
        answers = all_said(lines, netlist=netlist_text(GOOD), clock="clock 5 0 0")
        self.assertEqual((names, lines), ahead)
        names.clear()
        lines.clear()
        self.assertEqual((other[0], answers[1:]), (("ax", "bx"), ["period 5", "nothing done"]))

    def test_what_is_shown_is_not_changed(self):
        cut = ("cut", "g", "b")
        for show, thing in (
            (clock_text, (5, (1, 2))),
            (edit_text, ("gate", "g", "and", ("a", "b"))),
            (edits_text, [("delays", "g", ((1, 2), (3, 4))), ("period", 5)]),
            (filling_text, (0, None, 1)),
            (cases_text, ("ask", "a", cut, ("ask", "b", cut, cut))),
            (ring_text, (("late", ("a", "g", "r"), 0), ("high", "r"))),
        ):
            ahead = copy.deepcopy(thing)
            self.assertEqual(show(thing), show(thing))
            self.assertEqual(thing, ahead)

    def test_wants_are_not_kept(self):
        edits = [("period", 5)]
        self.assertEqual(edits_text(edits), "period 5")
        edits.append(("period", 6))
        self.assertEqual(edits_text(edits), "period 5\nperiod 6")
        wants = (("g", 1),)
        self.assertEqual(filling_for(GOOD, wants, filling=(None, 1, None, None)), (1, 1, 1, 0))
        self.assertEqual(filling_for(GOOD, wants), (1, 0, 1, 0))
        self.assertEqual(wants, (("g", 1),))

    def test_nothing_is_kept(self):
        gate = ["g", "not", ("a",), D]
        for name, good in (("g", True), ("a", False), ("g", True)):
            gate[0] = name
            self.assertIs(is_netlist((("a",), (tuple(gate),), (), (("o", "g"),))), good)
        self.assertEqual(paths_of((("a",), (), (), (("o", "a"),))), [("a", "o")])
        self.assertEqual(paths_of((("b",), (), (), (("o", "b"),))), [("b", "o")])


class ToldTest(unittest.TestCase):
    def test_asked_again_the_same_is_told(self):
        for netlist in (GOOD, BACKWARD, SIXTY, THREE, random_netlist(7)):
            self.assertEqual(all_told(netlist), all_told(netlist))

    def test_a_told_list_is_the_askers_own(self):
        for ask in (
            lambda: paths_of(GOOD),
            lambda: paths_of(GOOD, start="a", end="o"),
            lambda: fed_by(GOOD, "a"),
            lambda: fillings(GOOD),
            lambda: hangs_on(GOOD, "k"),
            lambda: checks_of(GOOD),
            lambda: rows_of(GOOD, (5, (0, 0)), ("late", "o", 0)),
            lambda: failing(GOOD, (5, (0, 0))),
            lambda: rules_of(GOOD),
        ):
            told = ask()
            ahead = list(told)
            self.assertIsNot(ask(), told)
            told.append("more")
            del told[0]
            self.assertEqual(ask(), ahead)

    def test_a_told_dict_is_the_askers_own(self):
        told = decided_of(GOOD, (0, 1, 0, 1))
        ahead = dict(told)
        told["a"] = 5
        del told["k"]
        self.assertEqual(decided_of(GOOD, (0, 1, 0, 1)), ahead)

    def test_a_told_list_stays_as_it_is(self):
        told = paths_of(GOOD)
        ahead = list(told)
        all_told(SIXTY)
        all_told(GOOD)
        self.assertEqual(told, ahead)


if __name__ == "__main__":
    unittest.main()
