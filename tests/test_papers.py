import unittest

from bywords import all_true, rows_by_words
from gateslack.errors import BadCheck, BadClock, BadPaper
from gateslack.netlist import paths_of
from gateslack.papers import check_report, check_slack, report_paper, slack_paper
from gateslack.slack import checks_of, slacks_of
from gateslack.truth import are_cases, cases_of, does_open
from samples import CLOCK, Equal, GOOD, HALF_TRUE, NO_ENDS, NO_GATES, NO_TRUE, SIXTY, deep
from samples import no_checks, no_clocks, no_texts, no_tuples, random_clock, random_clocked, some_netlists

LATE = ("late", "p", 0)
CLOCK_HALF = (20, ())
# Worst of p: 9 by a g h p, FALSE, as by b g h p, TRUE, which stands behind it.
SHUT = ("a", "g", "h", "p")
CASES = ("ask", "b", ("cut", "g", "b"), ("cut", "h", "b"))
TRUE = ("b", "g", "h", "p")
PAPER = ("worst", TRUE, (1, 0, 0), ((SHUT, CASES),))


def with_falses(least):
    """(NETLIST, CLOCK, CHECK, SLACK PAPER) of some that have so many FALSES at least."""
    found = []
    for seed in range(160):
        netlist = random_clocked(seed)
        clock = random_clock(netlist, seed)
        for check in checks_of(netlist):
            paper = slack_paper(netlist, clock, check)
            if len(paper[-1]) >= least:
                found.append((netlist, clock, check, paper))
    return found


class PaperTest(unittest.TestCase):
    def need_refused(self, error, ask):
        with self.assertRaises(error) as refused:
            ask()
        self.assertIs(type(refused.exception), error)
        return refused.exception

    def need_place(self, place, ask):
        told = self.need_refused(BadPaper, ask).place
        self.assertEqual((type(told), told), (type(place), place))


class MadeTest(PaperTest):
    def test_a_paper_shows_the_slack(self):
        words = []
        for seed, netlist in enumerate(some_netlists(60)):
            clock = random_clock(netlist, seed)
            paths = all_true(netlist)
            for check in checks_of(netlist):
                rows = rows_by_words(netlist, clock, check, paths)
                paper = slack_paper(netlist=netlist, clock=clock, check=check)
                words.append(paper[0])
                good = rows[0] if rows else None
                self.assertEqual(check_slack(netlist=netlist, clock=clock, check=check, paper=paper), good)
                every = rows_by_words(netlist, clock, check, paths_of(netlist))
                others = sorted(path for slack, path in every if good is None or (slack, path) < good)
                self.assertEqual([pair[0] for pair in paper[-1]], others)
                self.assertTrue(all(are_cases(netlist, *pair) for pair in paper[-1]))
                if good is None:
                    self.assertEqual((paper[0], len(paper)), ("none", 2))
                else:
                    self.assertEqual((paper[0], paper[1], len(paper)), ("worst", good[1], 4))
                    self.assertIs(does_open(netlist, paper[1], paper[2]), True)
        self.assertTrue(words.count("none") > 5 and words.count("worst") > 100)

    def test_by_hand(self):
        self.assertEqual(slack_paper(HALF_TRUE, CLOCK_HALF, LATE), PAPER)
        self.assertEqual(check_slack(HALF_TRUE, CLOCK_HALF, LATE, PAPER), (9, TRUE))
        paper = slack_paper(NO_TRUE, (5, (0,)), ("early", "r", 0))
        self.assertEqual((paper[0], [pair[0] for pair in paper[1]]), ("none", paths_of(NO_TRUE, end="r")))
        self.assertIsNone(check_slack(NO_TRUE, (5, (0,)), ("early", "r", 0), paper))
        self.assertEqual(slack_paper(NO_GATES, (5, (0,)), ("late", "r", 0))[::3], ("worst", ()))

    def test_reports(self):
        for seed, netlist in enumerate(some_netlists(60)):
            clock = random_clock(netlist, seed)
            report = report_paper(netlist=netlist, clock=clock)
            self.assertEqual([pair[0] for pair in report], checks_of(netlist))
            told = check_report(netlist=netlist, clock=clock, report=report)
            self.assertEqual(list(told.items()), list(slacks_of(netlist, clock).items()))
        self.assertEqual((report_paper(NO_ENDS, (1, ())), check_report(NO_ENDS, (1, ()), ())), ((), {}))

    def test_a_told_dict_is_the_askers_own(self):
        report = report_paper(GOOD, CLOCK)
        told = check_report(GOOD, CLOCK, report)
        ahead = dict(told)
        told.clear()
        self.assertEqual(check_report(GOOD, CLOCK, report), ahead)


class RefusedTest(PaperTest):
    def test_clocks_and_checks_ahead(self):
        for clock in no_clocks():
            self.need_refused(BadClock, lambda: slack_paper(GOOD, clock, 5))
            self.need_refused(BadClock, lambda: check_slack(GOOD, clock, 5, 5))
            self.need_refused(BadClock, lambda: report_paper(GOOD, clock))
            self.need_refused(BadClock, lambda: check_report(GOOD, clock, 5))
        for check in no_checks():
            self.need_refused(BadCheck, lambda: slack_paper(GOOD, CLOCK, check))
            self.need_refused(BadCheck, lambda: check_slack(GOOD, CLOCK, check, 5))

    def need_slack_place(self, place, paper):
        self.need_place(place, lambda: check_slack(HALF_TRUE, CLOCK_HALF, LATE, paper))

    def test_neither_word_nor_number(self):
        others = no_tuples() + [(), ("worst",), ("none",), PAPER[:3], (*PAPER, ()), list(PAPER), deep(), (Equal(),) * 4]
        others += [("none", *PAPER[1:]), ("worst", ()), ("none", (), ()), (Equal(), ()), ("best", *PAPER[1:]), ("", ())]
        others += [(word, *PAPER[1:]) for word in no_texts()] + [(word, ()) for word in no_texts()]
        for paper in others:
            self.need_slack_place(None, paper)

    def test_paths(self):
        others = no_tuples() + [(), ("b", "p"), TRUE[:-1], (*TRUE[:-1], "o"), ("c", "k", "o"), list(TRUE), deep()]
        others += [(Equal(),) * 4, (*TRUE[:3], Equal()), ("b", "g", "h", "k", "o")]
        for path in others:
            self.need_slack_place("path", ("worst", path, 5, 5))

    def test_fillings(self):
        others = no_tuples() + [(), (1, 0), (1, 0, 0, 0), (1, 1, 0), (0, 0, 0), (1, 0, None), [1, 0, 0]]
        others += [(Equal(),) * 3, (1, 0, True)]
        for filling in others:
            self.need_slack_place("filling", ("worst", TRUE, filling, 5))
        self.need_slack_place("filling", ("worst", SHUT, (1, 0, 0), ()))
        self.assertEqual(check_slack(HALF_TRUE, CLOCK_HALF, LATE, (*PAPER[:2], (1, 0, 1), PAPER[3])), (9, TRUE))

    def test_falses_that_are_no_tuple(self):
        for falses in no_tuples() + [[(SHUT, CASES)], {SHUT: CASES}, Equal()]:
            self.need_slack_place("falses", (*PAPER[:3], falses))
            self.need_slack_place("falses", ("none", falses))

    def test_another_path_than_the_worst(self):
        path = ("b", "h", "p")
        falses = ((SHUT, CASES), (TRUE, CASES))
        self.need_slack_place(1, ("worst", path, (0, 0, 0), falses))
        self.need_slack_place(1, ("worst", path, (0, 0, 0), falses[:1]))
        self.need_slack_place(0, ("worst", path, (0, 0, 0), falses[::-1]))
        self.need_slack_place(1, ("none", ((SHUT, CASES), (TRUE, CASES), (path, CASES))))

    def test_each_false_otherwise(self):
        found = with_falses(3)
        self.assertGreater(len(found), 9)
        for netlist, clock, check, paper in found[:12]:
            falses = paper[-1]
            for number, (other, cases) in enumerate(falses):
                true = [path for path in all_true(netlist) if path not in dict(falses)][:1]
                wrongs = [None, (), (other,), (other, None), (other, cases, cases), [other, cases], (other, [cases])]
                wrongs += [(Equal(), cases), (Equal(),) * 2, (list(other), cases), ((Equal(),) * len(other), cases)]
                wrongs += [(path, cases) for path in true] + [(cases, other), falses[number - 1]]
                wrongs += [(other, ("cut", "zzzz", "a"))]
                for wrong in wrongs:
                    thing = (*paper[:-1], (*falses[:number], wrong, *falses[number + 1 :]))
                    self.need_place(number, lambda: check_slack(netlist, clock, check, thing))
                # Lacks, stands twice, stands otherwise.
                thing = (*paper[:-1], falses[:number] + falses[number + 1 :])
                self.need_place(number, lambda: check_slack(netlist, clock, check, thing))
                thing = (*paper[:-1], falses[: number + 1] + falses[number:])
                self.need_place(number + 1, lambda: check_slack(netlist, clock, check, thing))
                thing = (*paper[:-1], falses[:number] + falses[number:][::-1])
                if number < len(falses) - 1:
                    self.need_place(number, lambda: check_slack(netlist, clock, check, thing))
            for more in (falses[0], None, 5, (true, None)):
                thing = (*paper[:-1], (*falses, more))
                self.need_place(len(falses), lambda: check_slack(netlist, clock, check, thing))

    def test_a_false_path_that_is_no_worse(self):
        for netlist, clock, check, paper in with_falses(0):
            rows = rows_by_words(netlist, clock, check, paths_of(netlist))
            falses = [path for _, path in rows if path not in all_true(netlist) and path not in dict(paper[-1])]
            for other in falses[:1]:
                more = tuple(sorted([*paper[-1], (other, cases_of(netlist, other))]))
                number = [pair[0] for pair in more].index(other)
                self.need_place(number, lambda: check_slack(netlist, clock, check, (*paper[:-1], more)))
                return
        self.fail("none found")

    def test_reports(self):
        clock = (9, (0, 0))
        report = report_paper(GOOD, clock)
        for thing in no_tuples() + [list(report), dict(report), Equal()]:
            self.need_place(None, lambda: check_report(GOOD, clock, thing))
        for number, (check, paper) in enumerate(report):
            wrongs = [None, (), (check,), (check, paper, paper), [check, paper], (check, None), (paper, check), deep()]
            wrongs += [(Equal(), paper), (list(check), paper), (check, Equal()), (Equal(), Equal()), report[number - 1]]
            wrongs += [((*check[:2], bool(check[2])), paper), ((check[0], Equal(), check[2]), paper)]
            wrongs += [(check, (*paper[:2], paper[2][:-1], paper[3])), (check, ("none", ()))]
            wrongs += [(check, row[1]) for row in report if row[0][1] != check[1]]
            for wrong in wrongs:
                thing = (*report[:number], wrong, *report[number + 1 :])
                self.need_place(number, lambda: check_report(GOOD, clock, thing))
            thing = report[:number] + report[number + 1 :]
            self.need_place(number, lambda: check_report(GOOD, clock, thing))
            thing = report[: number + 1] + report[number:]
            self.need_place(number + 1, lambda: check_report(GOOD, clock, thing))
        for more in (report[0], None, (("late", "zz", 0), ("none", ()))):
            self.need_place(len(report), lambda: check_report(GOOD, clock, (*report, more)))
        self.need_place(0, lambda: check_report(GOOD, clock, ()))
        self.need_place(0, lambda: check_report(NO_ENDS, (1, ()), (None,)))

    def test_of_another_clock(self):
        report = report_paper(SIXTY, (50, ()))
        self.assertEqual(check_report(SIXTY, (60, ()), report), slacks_of(SIXTY, (60, ())))
        self.need_refused(BadClock, lambda: check_report(SIXTY, (0, ()), report))


if __name__ == "__main__":
    unittest.main()
