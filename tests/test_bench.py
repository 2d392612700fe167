import random
import unittest

from bywords import all_arrivals, corners, edited_by_words, reckoned_by_words
from gateslack.bench import Bench
from gateslack.errors import BadCheck, BadClock, BadEdit, BadNetlist, NoCorner, NoSignal, NothingDone
from gateslack.netlist import is_netlist, order_of
from gateslack.slack import checks_of, failing, slacks_of, worst
from samples import CLOCK, D, EDITS, Equal, GOOD, NO_ENDS, NO_GATES, NO_TRUE, SIXTY, THREE, deep, no_checks, no_clocks
from samples import no_corners, no_names, no_texts, no_tuples, no_wholes, random_clock, random_edit, some_netlists

# Of GOOD, each refused: what, with which place where it is told.
REFUSED = (
    (BadEdit, ("delay", "g", ((1, 2), (1, 2)))),
    (BadNetlist, ("gate", "g", "and", ("a", "h"))),
    (BadNetlist, ("data", "o", "zz")),
    (BadClock, ("skew", "r", 10000)),
    (BadClock, ("period", 0)),
    (BadEdit, None),
)


def told(bench):
    """All that a bench tells."""
    netlist = bench.netlist()
    names = [*netlist[0], *[row[0] for row in netlist[2]], *[gate[0] for gate in netlist[1]]]
    arrivals = [(name, at, bench.arrivals(name, corner=at)) for name in names for at in corners(netlist)]
    rows = [bench.worst(check) for check in checks_of(netlist)]
    slacks = [list(bench.slacks().items()), bench.failing(), bench.failing(under=30), bench.changed()]
    return [netlist, bench.clock(), bench.edits(), bench.log(), len(bench), arrivals, rows, slacks]


def kept(bench):
    """What a bench keeps."""
    names = [*bench.netlist()[0], *[gate[0] for gate in bench.netlist()[1]]]
    rows = [bench.arrivals(name) for name in names]
    return [bench.netlist(), bench.clock(), bench.edits(), bench.log(), len(bench), rows]


class BenchTest(unittest.TestCase):
    def need_refused(self, error, ask):
        with self.assertRaises(error) as refused:
            ask()
        self.assertIs(type(refused.exception), error)
        return refused.exception

    def need_kept(self, bench, error, ask):
        """A refusal, by which nothing is changed."""
        ahead = kept(bench)
        refusal = self.need_refused(error, ask)
        self.assertEqual(kept(bench), ahead)
        return refusal

    def need_as_anew(self, bench):
        """What is told of NETLIST and CLOCK is told by one that is made of these."""
        anew = Bench(bench.netlist(), bench.clock())
        one, other = told(bench), told(anew)
        self.assertEqual(one[:2] + one[5:7] + one[7][:3], other[:2] + other[5:7] + other[7][:3])
        self.assertTrue(bench == anew and anew == bench)


class MadeTest(BenchTest):
    def test_made(self):
        for seed, netlist in enumerate(some_netlists()):
            clock = random_clock(netlist, seed)
            bench = Bench(netlist=netlist, clock=clock)
            self.assertEqual((bench.netlist(), bench.clock()), (netlist, clock))
            self.assertEqual((bench.edits(), bench.log(), bench.changed(), len(bench)), ([], [], [], 0))
            arrivals = all_arrivals(netlist, clock)
            for name, row in arrivals.items():
                self.assertEqual([bench.arrivals(name, corner=at) for at in corners(netlist)], row)
            self.assertEqual(list(bench.slacks().items()), list(slacks_of(netlist, clock).items()))
            self.assertEqual(bench.failing(under=9), failing(netlist, clock, under=9))

    def test_no_netlists(self):
        for thing in no_tuples() + [(), deep(), GOOD[:3]]:
            self.assertEqual(self.need_refused(BadNetlist, lambda: Bench(thing, 5)).place, ())
        bad = (("a",), (("g", "not", ("x",), D),), (), ())
        self.assertEqual(self.need_refused(BadNetlist, lambda: Bench(bad, None)).place, (1, 0))

    def test_no_clocks(self):
        for thing in no_clocks():
            self.need_refused(BadClock, lambda: Bench(GOOD, thing))


class AskedTest(BenchTest):
    def test_arrivals(self):
        bench = Bench(GOOD, CLOCK)
        self.assertEqual([bench.arrivals(name) for name in ("a", "r", "s")], [(0, 0), (5, 5), (-7, -7)])
        self.assertEqual([bench.arrivals(name, corner=0) for name in ("g", "h", "k")], [(3, 10), (4, 11), (0, 20)])
        self.assertEqual([bench.arrivals(name=name, corner=1) for name in ("g", "h", "k")], [(2, 9), (2, 11), (7, 18)])

    def test_what_is_no_signal_or_corner(self):
        bench = Bench(GOOD, CLOCK)
        for name in no_names() + ["zzzz", "o", "p", ("g",)]:
            refusal = self.need_kept(bench, NoSignal, lambda: bench.arrivals(name, corner=9))
            self.assertIs(refusal.name, name)
        for corner in no_corners():
            refusal = self.need_kept(bench, NoCorner, lambda: bench.arrivals("g", corner=corner))
            self.assertIs(refusal.number, corner)
        self.assertRaises(TypeError, lambda: bench.arrivals("g", 0))
        self.assertRaises(TypeError, lambda: bench.failing(0))

    def test_what_is_no_check(self):
        bench = Bench(GOOD, CLOCK)
        for check in no_checks():
            self.need_kept(bench, BadCheck, lambda: bench.worst(check))
        self.assertEqual(bench.worst(check=("late", "r", 0)), worst(GOOD, CLOCK, ("late", "r", 0)))
        self.assertIsNone(Bench(NO_TRUE, (5, (0,))).worst(("late", "o", 0)))

    def test_what_is_told_is_the_askers_own(self):
        bench = Bench(GOOD, CLOCK)
        bench.attempt((EDITS[3], EDITS[4]))
        ahead = told(bench)
        for ask in (bench.edits, bench.log, bench.failing, bench.changed):
            ask().append(5)
            ask().clear()
        bench.slacks().clear()
        self.assertEqual(told(bench), ahead)
        edits, log, slacks = bench.edits(), bench.log(), bench.slacks()
        bench.attempt((("skew", "r", 30),))
        self.assertEqual((edits, log, list(slacks.items())), (ahead[2], ahead[3], ahead[7][0]))

    def test_in_any_order(self):
        dice = random.Random(1)
        bench = Bench(THREE, (20, (3, -2)))
        for edit in (("skew", "r", 9), ("delays", "g", ((0, 1), (0, 40), (3, 3))), ("data", "s", "h")):
            asks = [bench.slacks, bench.changed, bench.failing, bench.edits, bench.log, bench.netlist]
            ahead = [ask() for ask in asks]
            dice.shuffle(asks)
            for ask in asks * 2:
                ask()
            asks = [bench.slacks, bench.changed, bench.failing, bench.edits, bench.log, bench.netlist]
            self.assertEqual([ask() for ask in asks], ahead)
            bench.edit(edit)
            self.need_as_anew(bench)


class EditTest(BenchTest):
    def test_each_word(self):
        bench = Bench(GOOD, CLOCK)
        for edit, reckoned in (
            (("delays", "g", ((3, 9), (2, 4))), ("g", "h", "k")),
            (("delays", "h", ((1, 1), (0, 2))), ("h",)),
            (("delays", "k", ((9, 9), (9, 9))), ("k",)),
            (("gate", "g", "or", ("a", "r")), ("g",)),
            (("gate", "h", "nand", ("g", "b")), ("h", "k")),
            (("gate", "h", "not", ("b",)), ("h", "k")),
            (("gate", "g", "nor", ("h", "a")), ("g",)),
            (("data", "r", "g"), ()),
            (("data", "o", "s"), ()),
            (("checks", "s", 9, 8, -7, 6), ()),
            (("skew", "s", 40), ()),
            (("skew", "r", 40), ()),
            (("period", 7), ()),
        ):
            netlist, clock = edited_by_words(bench.netlist(), bench.clock(), edit)
            self.assertEqual(bench.edit(edit=edit), reckoned, edit)
            self.assertEqual((bench.netlist(), bench.clock()), (netlist, clock))
            self.need_as_anew(bench)
        self.assertEqual(order_of(bench.netlist()), ("h", "g", "k"))
        self.assertEqual(len(bench), 13)

    def test_skews_are_reckoned_as_far_as_they_go(self):
        bench = Bench(GOOD, CLOCK)
        self.assertEqual(bench.edit(("skew", "r", 5)), ())
        self.assertEqual(bench.edit(("skew", "r", 6)), ("g", "h", "k"))
        # From 2 down to -2 one CORNER or the other one tells.
        self.assertEqual(bench.edit(("skew", "r", -1)), ("g", "h", "k"))
        self.assertEqual(bench.edit(("skew", "s", 0)), ())

    def test_in_order_of_what_is_made(self):
        bench = Bench((("a", "b"), (("g", "not", ("a",), D), ("h", "not", ("a",), D)), (), (("o", "g"),)), (9, ()))
        self.assertEqual(bench.edit(("gate", "g", "not", ("h",))), ("g",))
        self.assertEqual(bench.edit(("delays", "h", ((2, 2),))), ("h", "g"))
        self.assertEqual(bench.edit(("gate", "g", "not", ("b",))), ("g",))
        self.assertEqual(bench.edit(("gate", "h", "not", ("g",))), ("h",))
        self.assertEqual(bench.edit(("gate", "g", "and", ("a", "b"))), ("g",))
        self.assertEqual(bench.edit(("delays", "g", ((0, 5),))), ("g", "h"))

    def test_by_the_words(self):
        refused = 0
        for seed, netlist in enumerate(some_netlists(30)):
            dice = random.Random(seed)
            clock = random_clock(netlist, seed)
            bench = Bench(netlist, clock)
            done = [(bench.netlist(), bench.clock())]
            for _ in range(8):
                edit = random_edit(bench.netlist(), dice)
                behind = edited_by_words(bench.netlist(), bench.clock(), edit)
                if not is_netlist(behind[0]):
                    refused += 1
                    self.need_kept(bench, BadNetlist, lambda: bench.edit(edit))
                    continue
                ahead = all_arrivals(*done[-1])
                slacks = bench.slacks()
                reckoned = bench.edit(edit)
                self.assertEqual((bench.netlist(), bench.clock()), behind)
                told_behind = (behind[0], all_arrivals(*behind))
                self.assertEqual(reckoned, reckoned_by_words(order_of(behind[0]), ahead, told_behind, edit))
                others = [(check, slacks[check], now) for check, now in bench.slacks().items() if slacks[check] != now]
                self.assertEqual(bench.changed(), others)
                done.append(behind)
                self.need_as_anew(bench)
            self.assertEqual(len(bench), len(done) - 1)
            while len(done) > 1:
                done.pop()
                last = bench.edits()[-1]
                self.assertEqual(bench.back(), last)
                self.assertEqual((bench.netlist(), bench.clock()), done[-1])
                self.assertEqual(kept(bench)[5], kept(Bench(*done[-1]))[5])
            self.need_kept(bench, NothingDone, bench.back)
            self.need_as_anew(bench)
        self.assertGreater(refused, 10)

    def test_changed_is_told_of_the_last_one_alone(self):
        bench = Bench(NO_GATES, (9, (0,)))
        self.assertEqual(bench.changed(), [])
        bench.edit(("skew", "r", 2))
        skewed = [(("early", "r", 0), 0, -2), (("late", "r", 0), 9, 11)]
        self.assertEqual(bench.changed(), skewed)
        bench.edit(("period", 5))
        self.assertEqual(bench.changed(), [(("late", "r", 0), 11, 7)])
        bench.edit(("period", 5))
        self.assertEqual(bench.changed(), [])
        bench.back()
        bench.back()
        self.assertEqual(bench.changed(), skewed)
        bench.back()
        self.assertEqual(bench.changed(), [])

    def test_slacks_that_come_and_go(self):
        bench = Bench(NO_TRUE, (9, (0,)))
        bench.edit(("gate", "g", "not", ("y",)))
        gone = [(("early", "r", 0), None, 0), (("late", "o", 0), None, -1), (("late", "r", 0), None, -2)]
        self.assertEqual(bench.changed(), gone)
        bench.edit(("gate", "g", "and", ("y", "z")))
        self.assertEqual(bench.changed(), [(check, behind, ahead) for check, ahead, behind in gone])


class RefusedTest(BenchTest):
    def need_bad_edit(self, edit):
        bench = Bench(GOOD, CLOCK)
        self.need_kept(bench, BadEdit, lambda: bench.edit(edit))

    def test_words_and_numbers_of_things(self):
        for thing in no_tuples() + [(), ("g",), deep(), (Equal(),) * 3, ("input", "g"), ("clock", 5)]:
            self.need_bad_edit(thing)
        for edit in EDITS:
            for other in (edit[:-1], (*edit, edit[-1]), edit[1:], list(edit), edit[:1], (edit,), ("late", *edit[1:])):
                self.need_bad_edit(other)
            for word in no_texts() + ["", "Gate", "gate ", "checked"]:
                self.need_bad_edit((word, *edit[1:]))

    def test_names_of_none_such(self):
        for at, names in enumerate(("a r s o p zz", "a r s o p zz", "a b g h k zz", "a g o zz", "a g p zz")):
            edit = EDITS[at]
            for name in names.split() + no_names() + [("g",)]:
                self.need_bad_edit((edit[0], name, *edit[2:]))

    def test_delays_of_more_or_fewer_pairs(self):
        for delays in ((), ((1, 2),), ((1, 2),) * 3, (5,), (None,) * 3, (Equal(),), ("ab", "cd", "ef"), deep()):
            self.need_bad_edit(("delays", "g", delays))

    def need_place(self, netlist, edit, place):
        bench = Bench(netlist, (5, tuple([0] * len(netlist[2]))))
        refusal = self.need_kept(bench, BadNetlist, lambda: bench.edit(edit))
        self.assertEqual(refusal.place, place)

    def test_what_would_be_no_netlist(self):
        for delays in no_tuples() + [((1, 2), (2, 1)), ((1, 2), None), (5, 5), ((0, 1000), (0, 0)), (Equal(),) * 2]:
            self.need_place(GOOD, ("delays", "h", delays), (1, 1))
        pairs = (("not", ("a", "b")), ("and", ("a",)), ("and", ("a", "a")), ("and", ["a", "b"]), ("maybe", ("a",)))
        for kind, pins in pairs:
            self.need_place(GOOD, ("gate", "k", kind, pins), (1, 2))
        for thing in no_texts():
            self.need_place(GOOD, ("gate", "g", thing, ("a", "b")), (1, 0))
            self.need_place(GOOD, ("gate", "g", "and", thing), (1, 0))
            self.need_place(GOOD, ("data", "s", thing), (2, 1))
            self.need_place(GOOD, ("data", "p", thing), (3, 1))
        for edit, place in (
            (("gate", "g", "and", ("a", "zz")), (1, 0)),
            (("gate", "g", "and", ("a", "o")), (1, 0)),
            (("gate", "h", "not", ("h",)), (1, 1)),
            (("gate", "g", "and", ("k", "a")), (1, 0)),
            (("data", "s", "o"), (2, 1)),
            (("data", "o", "zz"), (3, 0)),
            (("checks", "s", 1000, 0, 0, 0), (2, 1)),
            (("checks", "s", 0, -1, 0, 0), (2, 1)),
            (("checks", "s", 0, 0, 1, 0), (2, 1)),
            (("checks", "s", 0, 0, 0, True), (2, 1)),
        ):
            self.need_place(GOOD, edit, place)
        # A seventh way to what feeds many.
        self.need_place(SIXTY, ("data", "p", "f"), (1,))

    def test_what_would_be_no_clock(self):
        for thing in no_wholes() + [0, -1, 100000, None]:
            bench = Bench(GOOD, CLOCK)
            self.need_kept(bench, BadClock, lambda: bench.edit(("period", thing)))
        for thing in no_wholes() + [10000, -10000, None]:
            bench = Bench(GOOD, CLOCK)
            self.need_kept(bench, BadClock, lambda: bench.edit(("skew", "s", thing)))

    def test_one_corner_without_gates(self):
        self.assertEqual(Bench(NO_GATES, (1, (0,))).edit(("period", 99999)), ())
        self.need_kept(Bench(NO_ENDS, (1, ())), BadEdit, lambda: Bench(NO_ENDS, (1, ())).edit(("data", "g", "a")))


class AttemptTest(BenchTest):
    def test_all_done(self):
        for whole in (True, False):
            bench, other = Bench(GOOD, CLOCK), Bench(GOOD, CLOCK)
            self.assertEqual(bench.attempt(EDITS, whole=whole), [other.edit(edit) for edit in EDITS])
            self.assertTrue(bench == other)
            self.assertEqual(bench.edits(), list(EDITS))
            self.assertEqual(bench.log(), [("open", 6), ("shut", 6)])
            self.assertEqual(bench.changed(), other.changed())

    def test_none_and_one(self):
        bench = Bench(GOOD, CLOCK)
        self.assertEqual(bench.attempt(()), [])
        self.assertEqual(bench.attempt(edits=(EDITS[0],), whole=False), [("g",)])
        self.assertEqual(bench.log(), [("open", 0), ("shut", 0), ("open", 1), ("shut", 1)])
        self.assertEqual((bench.edits(), len(bench)), ([EDITS[0]], 1))

    def test_a_refused_one_at_each_place(self):
        for error, refused in REFUSED:
            for at in range(4):
                edits = (*EDITS[1 : 1 + at], refused, EDITS[5], None)
                bench = Bench(GOOD, CLOCK)
                bench.edit(EDITS[0])
                ahead = told(bench)
                self.need_refused(error, lambda: bench.attempt(edits))
                log = [("open", at + 3), ("shut", at)]
                self.assertEqual(told(bench), [*ahead[:3], log, *ahead[4:]])
                self.need_refused(error, lambda: bench.attempt(edits, whole=False))
                self.assertEqual(bench.edits(), [EDITS[0], *edits[:at]])
                self.assertEqual(bench.log(), log * 2)
                other = Bench(GOOD, CLOCK)
                other.attempt(EDITS[: 1 + at])
                self.assertTrue(bench == other)
                self.assertEqual(bench.changed(), other.changed())
                self.need_as_anew(bench)

    def test_places_are_told(self):
        bench = Bench(GOOD, CLOCK)
        for whole in (True, False):
            refusal = self.need_refused(BadNetlist, lambda: bench.attempt((EDITS[5], ("data", "s", "x")), whole=whole))
            self.assertEqual(refusal.place, (2, 1))

    def test_no_tuple(self):
        for thing in no_tuples() + [list(EDITS), dict.fromkeys(EDITS), None, Equal()]:
            for whole in (True, False):
                bench = Bench(GOOD, CLOCK)
                self.need_kept(bench, BadEdit, lambda: bench.attempt(thing, whole=whole))
        self.assertEqual(bench.log(), [])
        self.assertRaises(TypeError, lambda: bench.attempt((), True))

    def test_the_log_is_of_attempts_alone(self):
        bench = Bench(GOOD, CLOCK)
        bench.edit(EDITS[5])
        bench.back()
        self.need_refused(NothingDone, bench.back)
        self.need_refused(BadEdit, lambda: bench.edit(5))
        self.assertEqual(bench.log(), [])
        bench.attempt((EDITS[5],))
        bench.back()
        self.assertEqual((bench.log(), bench.edits()), ([("open", 1), ("shut", 1)], []))


class TwinTest(BenchTest):
    def test_back(self):
        bench = Bench(GOOD, CLOCK)
        self.need_kept(bench, NothingDone, bench.back)
        bench.attempt(EDITS)
        for edit in EDITS[::-1]:
            self.assertEqual(bench.back(), edit)
        self.assertTrue(bench == Bench(GOOD, CLOCK))
        self.need_kept(bench, NothingDone, bench.back)

    def test_twins_go_on_by_themselves(self):
        bench = Bench(GOOD, CLOCK)
        bench.attempt(EDITS[:4])
        twin = bench.twin()
        self.assertIs(type(twin), Bench)
        self.assertIsNot(twin, bench)
        self.assertEqual(told(twin), told(bench))
        ahead = told(bench)
        twin.attempt(EDITS[4:])
        twin.edit(("delays", "k", ((0, 0), (0, 0))))
        self.assertEqual(told(bench), ahead)
        behind = told(twin)
        while len(bench):
            bench.back()
        bench.edit(("period", 7))
        self.assertEqual(told(twin), behind)
        for edit in [("delays", "k", ((0, 0), (0, 0))), *EDITS[::-1]]:
            self.assertEqual(twin.back(), edit)
        self.need_as_anew(twin)
        self.assertEqual(twin.netlist(), GOOD)

    def test_equal(self):
        bench, other = Bench(GOOD, CLOCK), Bench(GOOD, CLOCK)
        self.assertIs(bench == other, True)
        self.assertIs(bench != other, False)
        other.edit(("period", 101))
        self.assertIs(bench == other, False)
        self.assertIs(bench != other, True)
        other.edit(("period", 100))
        self.assertIs(bench == other, True)
        other.edit(("checks", "s", 0, 0, 0, 1))
        self.assertIs(bench == other, False)
        self.assertIs(bench == Bench(GOOD, (100, (5, -8))), False)
        for thing in no_tuples() + [GOOD, (GOOD, CLOCK), (), Bench, deep()]:
            self.assertIs(bench == thing, False)

    def test_len(self):
        bench = Bench(GOOD, CLOCK)
        for many, edit in enumerate(EDITS):
            self.assertEqual(len(bench), many)
            bench.edit(edit)
        bench.back()
        self.assertEqual(len(bench), 5)


if __name__ == "__main__":
    unittest.main()
