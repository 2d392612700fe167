import random
import unittest

from bywords import all_openings, all_true, decided_by_words, starts
from gateslack.bench import Bench
from gateslack.desk import Desk, all_said
from gateslack.errors import BadClock, BadLine, BadNetlist, BadText
from gateslack.netlist import is_netlist, order_of, paths_of
from gateslack.reading import cases_in, clock_in, edit_in, edits_in, netlist_in, path_in, ring_in
from gateslack.showing import clock_text, edit_text, edits_text, netlist_text
from gateslack.skew import are_skews, best_paper, best_slack, check_best, is_ring, least_period, slack_by
from gateslack.slack import period_needed, slacks_of
from gateslack.truth import cases_of, need_cases
from samples import CLOCK, D, EDIT_LINES, GOOD, HALF_TRUE, LINES, NO_ENDS, NO_GATES, NO_TRUE, SIXTY, SIX_STARTS, THREE
from samples import no_texts, random_clock, random_edit, some_netlists

TEXT = "\n".join(LINES)
CLOCK_LINE = "clock 100 5 -7"

# Of GOOD: a line, and after how many words, too, it would be whole.
GOOD_LINES = (
    ("delays g / 3 9 / 2 4", (5,)),
    ("gate g and a b", ()),
    ("gate k xor a b h", (5,)),
    ("gate h not a", ()),
    ("data r g", ()),
    ("checks r 3 1 -20 30", ()),
    ("skew r -4", ()),
    ("period 90", ()),
    ("all skew r 4", ()),
    ("all period 9 ; gate g or a b s ; delays h / 1 2 / 3 4 ; data o a", (3, 9, 10, 16, 19)),
    ("each skew r 4 ; period 8", (4,)),
    ("back", ()),
    ("edits", ()),
    ("changed", ()),
    ("netlist", ()),
    ("clock", ()),
    ("order", ()),
    ("paths", ()),
    ("paths o", (1,)),
    ("true", ()),
    ("true r", (1,)),
    ("opening a p", ()),
    ("opening a g h r", (3, 4)),
    ("cases a p", ()),
    ("decided 0 x 1 x", (2, 3, 4)),
    ("worst late r 1", ()),
    ("slacks", ()),
    ("slacks 1", (1,)),
    ("failing", ()),
    ("arrivals g 1", ()),
    ("needed", ()),
    ("best", ()),
    ("ring", ()),
    ("skews", ()),
    ("least", ()),
)
# Behind these there can be one word more.
LONGER = ("gate g and a b", "opening a p", "opening a g h r", "cases a p", "decided 0 x 1 x", "paths", "true", "slacks")
LONGER += ("delays g / 3 9 / 2 4",)

# GATES, a START and ENDS whose NAMES are words of lines.
WORDY = (
    ("none", "all"),
    (("gate", "and", ("none", "late"), D), ("clock", "not", ("gate",), D), ("x", "xor", ("clock", "all", "early"), D)),
    (("late", "clock", 0, 0, -5, 5), ("early", "x", 0, 0, 0, 9)),
    (("data", "gate"), ("back", "x")),
)


def desk_of(netlist, clock):
    return Desk(netlist_text(netlist), clock_text(clock))


def kept(bench):
    return (bench.netlist(), bench.clock(), bench.edits(), bench.log())


def words(*things):
    return " ".join("none" if thing is None else str(thing) for thing in things) or "none"


def joined(rows):
    return ", ".join(rows) or "none"


def fraction(pair):
    return str(pair[0]) if pair[1] == 1 else f"{pair[0]}/{pair[1]}"


class DeskTest(unittest.TestCase):
    def need_answers(self, netlist, clock, rows):
        desk = desk_of(netlist, clock)
        for line, answer in rows:
            self.assertEqual(desk.said(line), answer, line)
        return desk

    def need_bad_word(self, line, number, netlist=GOOD, clock=CLOCK):
        desk = desk_of(netlist, clock)
        self.assertEqual(desk.said(line), f"bad word {number}", repr(line))
        self.assertEqual(kept(desk.bench()), (netlist, clock, [], []))


class MadeTest(DeskTest):
    def test_made(self):
        desk = Desk(netlist=TEXT, clock=CLOCK_LINE)
        self.assertEqual(kept(desk.bench()), (GOOD, CLOCK, [], []))
        self.assertEqual(len(desk), 0)
        self.assertEqual(Desk(f"\n{TEXT}\n", f"\n\n {CLOCK_LINE}  \n").said("clock"), CLOCK_LINE)

    def need_bad_text(self, ask, line, word):
        with self.assertRaises(BadText) as refused:
            ask()
        self.assertEqual((refused.exception.line, refused.exception.word), (line, word))

    def test_refused_as_they_are_read(self):
        for make in (Desk, lambda netlist, clock: all_said([], netlist=netlist, clock=clock)):
            for thing in no_texts():
                self.need_bad_text(lambda: make(thing, 5), 0, 0)
                self.need_bad_text(lambda: make(TEXT, thing), 0, 0)
            self.need_bad_text(lambda: make("input a\ninput A", "clock"), 2, 2)
            self.need_bad_text(lambda: make("input a", "clock"), 1, 2)
            self.need_bad_text(lambda: make("input a", ""), 2, 1)
            self.need_bad_text(lambda: make("input a", "clock 5\nclock 5"), 2, 1)
            for text, place in (("", (0,)), ("input a\ngate g not b / 1 2", (1, 0)), ("input a\ninput a", (0, 1))):
                with self.assertRaises(BadNetlist) as refused:
                    make(text, "clock")
                self.assertEqual(refused.exception.place, place)
            for clock in ("clock 5", "clock 5 0", "clock 5 0 0 0"):
                self.assertRaises(BadClock, make, TEXT, clock)
            self.assertRaises(BadClock, make, "input a", "clock 5 0")


class WordTest(DeskTest):
    def test_all_lines_are_good(self):
        for line, _ in GOOD_LINES:
            self.assertNotIn("bad", Desk(TEXT, CLOCK_LINE).said(line), line)

    def test_each_word_otherwise(self):
        for line, _ in GOOD_LINES:
            row = line.split()
            for at in range(len(row)):
                wrongs = ("?", "A", "a1", "abcdefghi", "-0", "00", "100000", ";;", "a;", "//", "\n")
                for wrong in (*wrongs, f"{row[at]}\n"):
                    self.need_bad_word(" ".join([*row[:at], wrong, *row[at + 1 :]]), at + 1)

    def test_each_word_lacking(self):
        for line, whole in GOOD_LINES:
            row = line.split()
            for many in range(1, len(row)):
                cut = " ".join(row[:many])
                if many in whole:
                    self.assertNotIn("bad word", Desk(TEXT, CLOCK_LINE).said(cut), cut)
                else:
                    self.need_bad_word(cut, many + 1)

    def test_one_word_too_many(self):
        for line, _ in GOOD_LINES:
            many = len(line.split())
            for more in ("?", ";", "/") if line in LONGER else ("?", "a", "0", "/", "x", "back", "5 5"):
                if not line.startswith(("all", "each")) and (more, line) != ("/", "delays g / 3 9 / 2 4"):
                    self.need_bad_word(f"{line} {more}", many + 1)
                self.need_bad_word(f"{line} \n", many + 1)

    def test_lines_without_words(self):
        for line in ("", " ", " " * 12000):
            self.need_bad_word(line, 1)
        for line in ("\n", " \n ", "\nback", "back\n", "ba\nck"):
            self.need_bad_word(line, 1)

    def test_any_number_of_blanks(self):
        for line, _ in GOOD_LINES:
            answer = Desk(TEXT, CLOCK_LINE).said(line)
            for other in (f"  {line}", f"{line}   ", "   ".join(line.split())):
                self.assertEqual(Desk(TEXT, CLOCK_LINE).said(other), answer)

    def test_attempts(self):
        for line, number in (
            ("all", 2),
            ("each", 2),
            ("all ;", 2),
            ("all ; period 5", 2),
            ("all period 5 ;", 5),
            ("all period 5 ; ;", 5),
            ("all period ; period 5", 3),
            ("all period 5 6 ; period 5", 4),
            ("all period 5 period 5", 4),
            ("all period 5; period 5", 3),
            ("all period 5 ; back", 5),
            ("all all period 5", 2),
            ("each period 5 ; each period 5", 5),
            ("all delays g / 1 2 / 3 4 / 5 6 / 7 8", 13),
            ("all delays g / 1 2 / 3 ; period 5", 9),
            ("all gate g and a ; period 5", 6),
            ("all gate g and a b ; period 0", 9),
            ("all gate g and a b / ; period 9", 7),
            ("period 5 ; period 6", 3),
        ):
            self.need_bad_word(line, number)

    def test_bounds(self):
        for line, number in (
            ("slacks 100", 2),
            ("slacks -1", 2),
            ("arrivals g 100", 3),
            ("worst late r 100", 4),
            ("worst lately r 1", 2),
            ("decided 2", 2),
            ("decided 0 0 0 0 0 0 0", 8),
            ("skew r 10000", 3),
            ("period 0", 2),
            ("delays g / 5 4", 5),
            ("checks r 1 1 1 1", 5),
            ("opening a", 3),
            ("opening a / b", 3),
            ("opening a b / c", 4),
            ("paths o p", 3),
            ("ask a", 1),
            ("input a", 1),
            ("late", 1),
        ):
            self.need_bad_word(line, number)


class RefusedTest(DeskTest):
    def test_refusals_are_answered_and_change_nothing(self):
        for line, answer in (
            ("delays k / 1 2", "bad edit"),
            ("delays k / 1 2 / 3 4 / 5 6", "bad edit"),
            ("delays a / 1 2 / 1 2", "bad edit"),
            ("gate zz not a", "bad edit"),
            ("data a g", "bad edit"),
            ("checks o 0 0 0 0", "bad edit"),
            ("skew a 4", "bad edit"),
            ("gate g and a zz", "bad netlist 1 0"),
            ("gate k and a a", "bad netlist 1 2"),
            ("gate g not k", "bad netlist 1 0"),
            ("data s o", "bad netlist 2 1"),
            ("data p zz", "bad netlist 3 1"),
            ("arrivals o 0", "no signal o"),
            ("arrivals zz 99", "no signal zz"),
            ("arrivals a 2", "no corner 2"),
            ("slacks 2", "no corner 2"),
            ("slacks 99", "no corner 99"),
            ("paths a", "no end a"),
            ("true zz", "no end zz"),
            ("opening a r", "no path"),
            ("cases zz zz", "no path"),
            ("worst early o 0", "no check"),
            ("worst late a 0", "no check"),
            ("worst late r 2", "no check"),
            ("worst late r 99", "no check"),
            ("decided 0", "no filling"),
            ("decided x x x x x", "no filling"),
            ("back", "nothing done"),
            ("?", "bad word 1"),
        ):
            desk = self.need_answers(GOOD, CLOCK, [(line, answer), (line, answer)])
            self.assertEqual(kept(desk.bench()), (GOOD, CLOCK, [], []))
            self.assertEqual(len(desk), 2)
            desk.said("period 7")
            ahead = kept(desk.bench())
            if line != "back":
                self.assertEqual(desk.said(line), answer)
                self.assertEqual(kept(desk.bench()), ahead)

    def test_too_many_paths(self):
        self.need_answers(SIXTY, (9, ()), [("data p f", "bad netlist 1"), ("data p e", "none")])

    def test_attempts(self):
        bad_edits = (("skew g 5", "bad edit"), ("delays g / 1 2", "bad edit"))
        for refused, answer in (("data o zz", "bad netlist 3 0"), *bad_edits):
            desk = Desk(TEXT, CLOCK_LINE)
            self.assertEqual(desk.said(f"all period 7 ; {refused} ; period 8"), answer)
            self.assertEqual(kept(desk.bench()), (GOOD, CLOCK, [], [("open", 3), ("shut", 1)]))
            self.assertEqual(desk.said(f"each period 7 ; {refused} ; period 8"), answer)
            self.assertEqual((desk.said("edits"), desk.said("clock")), ("period 7", "clock 7 5 -7"))
            self.assertEqual(desk.bench().log(), [("open", 3), ("shut", 1)] * 2)

    def test_no_lines(self):
        desk = Desk(TEXT, CLOCK_LINE)
        for thing in no_texts():
            with self.assertRaises(BadLine) as refused:
                desk.said(thing)
            self.assertIs(type(refused.exception), BadLine)
            if thing is not None:
                self.assertRaises(BadLine, all_said, ["back", thing], netlist=TEXT, clock=CLOCK_LINE)
        self.assertEqual((len(desk), kept(desk.bench())), (0, (GOOD, CLOCK, [], [])))

    def test_len(self):
        desk = Desk(TEXT, CLOCK_LINE)
        for many, line in enumerate(("period 5", "", "back", "back", "bad", "all period 5 ; period 6")):
            self.assertEqual(len(desk), many)
            desk.said(line=line)
        self.assertEqual(len(desk), 6)


class DoneTest(DeskTest):
    def test_by_hand(self):
        self.need_answers(
            GOOD,
            CLOCK,
            [
                ("edits", "none"),
                ("changed", "none"),
                ("delays g / 3 5 / 2 4", "g"),
                ("skew r 9", "g h k"),
                ("changed", "early r 0 -2 -6, early r 1 -4 -8, late o 0 80 76, late o 1 82 78"),
                ("period 90", "none"),
                ("all skew s 0 ; gate h nor g b ; data o h", "none, h k, none"),
                ("each data p s", "none"),
                ("edits", "delays g / 3 5 / 2 4; skew r 9; period 90; skew s 0; gate h nor g b; data o h; data p s"),
                ("clock", "clock 90 9 0"),
                ("back", "data p s"),
                ("back", "data o h"),
                ("back", "gate h nor g b"),
                ("back", "skew s 0"),
                ("back", "period 90"),
                ("changed", "early r 0 -2 -6, early r 1 -4 -8, late o 0 80 76, late o 1 82 78"),
                ("back", "skew r 9"),
                ("back", "delays g / 3 5 / 2 4"),
                ("back", "nothing done"),
                ("netlist", "; ".join(LINES)),
                ("clock", "clock 100 5 -7"),
            ],
        )

    def test_changed_from_none(self):
        rows = [("gate g not y", "g"), ("changed", "early r 0 none 0, late o 0 none 0, late r 0 none -1")]
        self.need_answers(NO_TRUE, (10, (0,)), [*rows, ("back", "gate g not y")])

    def test_as_a_bench(self):
        for seed, netlist in enumerate(some_netlists(30)):
            dice = random.Random(seed)
            clock = random_clock(netlist, seed)
            desk, bench = desk_of(netlist, clock), Bench(netlist, clock)
            for _ in range(8):
                edits = tuple(random_edit(bench.netlist(), dice) for _ in range(dice.randint(1, 3)))
                line = edit_text(edits[0])
                self.assertEqual(edit_in(line), edits[0])
                if dice.random() < 0.5:
                    self.assertEqual(desk.said(line), self.done(lambda: words(*bench.edit(edits[0]))))
                else:
                    head, whole = dice.choice((("all", True), ("each", False)))
                    line = f"{head} {edits_text(edits, sign=' ; ')}"
                    told = self.done(lambda: joined(words(*row) for row in bench.attempt(edits, whole=whole)))
                    self.assertEqual(desk.said(line), told)
                if dice.random() < 0.3 and len(bench):
                    self.assertEqual(desk.said("back"), edit_text(bench.back()))
                self.assertEqual(kept(desk.bench()), kept(bench))
                self.assertEqual(desk.said("edits"), edits_text(bench.edits(), sign="; ") or "none")
                told = [words(*check, ahead, behind) for check, ahead, behind in bench.changed()]
                self.assertEqual(desk.said("changed"), joined(told))
                self.assertEqual(netlist_in(desk.said("netlist").replace("; ", "\n")), bench.netlist())
                self.assertEqual(clock_in(desk.said("clock")), bench.clock())

    def done(self, do):
        try:
            return do()
        except BadNetlist as refusal:
            return " ".join(["bad netlist", *map(str, refusal.place)])

    def test_edits_read_back(self):
        desk = Desk(TEXT, CLOCK_LINE)
        for line in EDIT_LINES:
            desk.said(line)
        self.assertEqual(edits_in(desk.said("edits").replace("; ", "\n")), tuple(desk.bench().edits()))
        self.assertEqual(desk.said("edits"), "; ".join(EDIT_LINES))

    def test_a_told_bench_goes_on_by_itself(self):
        desk = Desk(TEXT, CLOCK_LINE)
        desk.said("all period 5 ; skew r 1")
        bench = desk.bench()
        self.assertIs(type(bench), Bench)
        self.assertEqual(bench.edits(), [("period", 5), ("skew", "r", 1)])
        bench.back()
        bench.edit(("period", 77))
        self.assertEqual((desk.said("clock"), desk.said("edits")), ("clock 5 1 -7", "period 5; skew r 1"))
        desk.said("period 6")
        self.assertEqual(bench.clock(), (77, (5, -7)))
        self.assertIsNot(desk.bench(), desk.bench())


class AskedTest(DeskTest):
    def test_by_hand(self):
        self.need_answers(
            GOOD,
            CLOCK,
            [
                ("order", "g h k"),
                ("paths", "a g h k o, a g h r, a k o, a p, b k o, r g h k o, r g h r, s s"),
                ("paths o", "a g h k o, a k o, b k o, r g h k o"),
                ("true r", "a g h r, r g h r"),
                ("opening a g h r", "0 0 1 0"),
                ("cases a g h r", "none"),
                ("decided 0 x x 1", "a 0, b none, r none, s 1, g 0, h 1, k none"),
                ("worst early r 1", "-4 a g h r"),
                ("slacks 1", "early r 1 -4, early s 1 0, late o 1 82, late p 1 100, late r 1 91, late s 1 100"),
                ("failing", "-4 early r 1, -2 early r 0"),
                ("arrivals k 1", "7 18"),
                ("arrivals s 0", "-7 -7"),
                ("needed", "20"),
                ("best", "0"),
                ("least", "15"),
            ],
        )
        rows = [("cases a g h p", "ask b cut g b cut h b"), ("true p", "b g h p, b h p"), ("opening a g h p", "none")]
        self.need_answers(HALF_TRUE, (9, ()), [*rows, ("skews", "none"), ("best", "-5")])

    def test_none(self):
        rows = [("true", "none"), ("true o", "none"), ("worst late o 0", "none")]
        rows += [("best", "none"), ("ring", "none")]
        rows += [("failing", "none"), ("slacks", "early r 0 none, late o 0 none, late r 0 none"), ("skews", "0")]
        rows += [("needed", "1"), ("least", "1"), ("opening a n y g o", "none")]
        self.need_answers(NO_TRUE, (9, (0,)), rows)
        rows = [("paths", "none"), ("slacks", "none"), ("slacks 0", "none"), ("failing", "none"), ("least", "1")]
        self.need_answers(NO_ENDS, (9, ()), rows)
        self.need_answers(NO_GATES, (9, (4,)), [("order", "none"), ("failing", "-4 early r 0"), ("skews", "0")])
        self.need_answers(THREE, (50, (0, 0)), [("least", "none"), ("best", "-2")])

    def test_names_that_are_words(self):
        self.assertTrue(is_netlist(WORDY))
        rows = [("order", "gate clock x"), ("paths data", "late gate data, none gate data")]
        rows += [("paths paths", "no end paths"), ("data data none", "none")]
        rows += [("gate gate not all", "gate"), ("back", "gate gate not all")]
        rows += [("skew late 3", "gate clock x"), ("arrivals none 0", "0 0"), ("checks early 1 2 -3 4", "none")]
        rows += [("all delays x / 1 2 ; data back clock", "x, none"), ("decided x x 0 1", None)]
        rows += [("worst late back 0", None), ("true early", None), ("gate x xor gate late early", "x")]
        rows += [("opening none gate clock x early", "no path")]
        desk = desk_of(WORDY, (9, (0, 0)))
        for line, answer in rows:
            told = desk.said(line)
            self.assertEqual(told, told if answer is None else answer)
            self.assertFalse(told.startswith("bad"), (line, told))
        self.assertEqual(desk.said("clock"), "clock 9 3 0")
        self.assertEqual(netlist_in(desk.said("netlist").replace("; ", "\n")), desk.bench().netlist())

    def test_fractions(self):
        netlist = (
            (),
            (("g", "not", ("r",), ((1, 6),)), ("h", "not", ("s",), ((2, 9),))),
            (("r", "h", 2, 0, -5, 5), ("s", "g", 2, 1, -4, 3)),
            (),
        )
        desk = self.need_answers(netlist, (10, (0, 0)), [("best", "1/2"), ("period 9", "none"), ("best", "-1/2")])
        self.assertEqual(desk.said("least"), "10")

    def test_as_the_functions_tell(self):
        for seed, netlist in enumerate([*some_netlists(25), SIX_STARTS]):
            clock = random_clock(netlist, seed)
            desk = desk_of(netlist, clock)
            paths, true = paths_of(netlist), all_true(netlist)
            self.assertEqual(desk.said("order"), words(*order_of(netlist)))
            self.assertEqual(desk.said("paths"), joined(words(*path) for path in paths))
            self.assertEqual(desk.said("true"), joined(words(*path) for path in true))
            for end in [row[0] for row in netlist[2] + netlist[3]]:
                self.assertEqual(desk.said(f"paths {end}"), joined(words(*path) for path in paths if path[-1] == end))
                self.assertEqual(desk.said(f"true {end}"), joined(words(*path) for path in true if path[-1] == end))
            for path in paths[:9]:
                told = all_openings(netlist, path)
                self.assertEqual(desk.said(f"opening {words(*path)}"), words(*told[0]) if told else "none")
                cases = desk.said(f"cases {words(*path)}")
                if told:
                    self.assertEqual((cases, cases_of(netlist, path)), ("none", None))
                else:
                    self.assertIsNone(need_cases(netlist, path, cases_in(cases)))
            self.need_slacks(desk, netlist, clock)
            self.need_skews(desk, netlist, clock)
            self.assertEqual(kept(desk.bench()), (netlist, clock, [], []))

    def need_slacks(self, desk, netlist, clock):
        bench = Bench(netlist, clock)
        self.assertEqual(desk.said("slacks"), joined(words(*check, slack) for check, slack in bench.slacks().items()))
        for corner in range(len(netlist[1][0][3]) if netlist[1] else 1):
            told = slacks_of(netlist, clock, corner=corner)
            self.assertEqual(desk.said(f"slacks {corner}"), joined(words(*check, told[check]) for check in told))
            for name in starts(netlist) + [gate[0] for gate in netlist[1]]:
                told = bench.arrivals(name, corner=corner)
                self.assertEqual(desk.said(f"arrivals {name} {corner}"), words(*told))
        for check in bench.slacks():
            row = bench.worst(check)
            self.assertEqual(desk.said(f"worst {words(*check)}"), words(row[0], *row[1]) if row else "none")
        self.assertEqual(desk.said("failing"), joined(words(slack, *check) for slack, check in bench.failing()))
        self.assertEqual(desk.said("needed"), str(period_needed(netlist, clock[1])))
        dice = random.Random(str(clock))
        told = {start: dice.choice((0, 1, None)) for start in starts(netlist)}
        values = "".join(" x" if value is None else f" {value}" for value in told.values())
        names = starts(netlist) + list(order_of(netlist))
        rows = [words(name, decided_by_words(netlist, name, told)) for name in names]
        self.assertEqual(desk.said(f"decided{values}"), joined(rows))

    def need_skews(self, desk, netlist, clock):
        best = best_slack(netlist, period=clock[0])
        self.assertEqual(desk.said("best"), "none" if best is None else fraction(best))
        ring, skews = desk.said("ring"), desk.said("skews")
        least = least_period(netlist)
        self.assertEqual(desk.said("least"), "none" if least is None else str(least))
        told = [f"{skew}/1" if "/" not in skew else skew for skew in skews.split() if netlist[2]]
        pairs = [tuple(map(int, skew.split("/"))) for skew in told]
        self.assertIs(are_skews(netlist, tuple(pairs)), True)
        if not netlist[2]:
            self.assertEqual(skews, "none")
        if best is None:
            self.assertEqual(ring, "none")
        else:
            self.assertIs(is_ring(netlist, ring_in(ring)), True)
            self.assertEqual(check_best(netlist, (tuple(pairs), ring_in(ring)), period=clock[0]), best)
            self.assertEqual(slack_by(netlist, best_paper(netlist, period=clock[0])[0], period=clock[0]), best)

    def test_what_is_asked_reads_back(self):
        desk = Desk(TEXT, CLOCK_LINE)
        for path in desk.said("paths").split(", "):
            self.assertIn(path_in(path), paths_of(GOOD))
        self.assertEqual(netlist_in(desk.said("netlist").replace("; ", "\n")), GOOD)
        self.assertEqual(clock_in(desk.said("clock")), CLOCK)


class AllSaidTest(DeskTest):
    def test_all_said(self):
        lines = ["period 7", "clock", "back", "back", "", "slacks 9", "edits"]
        answers = ["none", "clock 7 5 -7", "period 7", "nothing done", "bad word 1", "no corner 9", "none"]
        ahead = list(lines)
        self.assertEqual(all_said(lines=lines, netlist=TEXT, clock=CLOCK_LINE), answers)
        self.assertEqual(all_said(lines, netlist=TEXT, clock=CLOCK_LINE), answers)
        self.assertEqual(lines, ahead)
        self.assertEqual(all_said([], netlist=TEXT, clock=CLOCK_LINE), [])
        self.assertRaises(TypeError, lambda: all_said([], TEXT, CLOCK_LINE))

    def test_no_list_of_lines(self):
        for thing in no_texts() + ["back"]:
            if type(thing) is not list or not all(type(line) is str for line in thing):
                self.assertRaises(BadLine, all_said, thing, netlist=TEXT, clock=CLOCK_LINE)


if __name__ == "__main__":
    unittest.main()
