import random
import unittest

from bywords import all_true, starts, value_by_words
from gateslack.errors import BadEdit, BadNetlist, NoSignal, TooMany
from gateslack.likeness import halved, regated, renamed, repinned, turned, unlike_end
from gateslack.netlist import ends_of, is_netlist, many_paths
from gateslack.skew import best_slack, least_period
from gateslack.slack import slacks_of
from gateslack.values import fillings, table_of
from samples import D, Equal, GOOD, HALF_TRUE, NO_ENDS, NO_GATES, NO_TRUE, SIXTY, THREE, deep
from samples import no_names, no_texts, no_tuples, random_clock, some_netlists

# Words that stand in texts and lines.
WORDS = ["input", "gate", "register", "output", "clock", "delays", "data", "checks", "skew", "period", "cut", "ask"]
WORDS += ["late", "early", "low", "high", "x", "not", "and", "nand", "or", "nor", "xor", "all", "each", "back", "edits"]
WORDS += ["none", "changed", "netlist", "order", "paths", "true", "opening", "cases", "decided", "worst", "slacks"]
WORDS += ["failing", "arrivals", "needed", "best", "ring", "skews", "least", "bad", "word", "no", "path", "worst"]

# Fourteen GATES, the first one of three PINS.
FULL = (
    ("a", "b", "c"),
    (("g", "nand", ("a", "b", "c"), D), *[(name, "not", ("g",), D) for name in "h i j k l m n p q r s t u".split()]),
    (),
    (("o", "g"),),
)


def names_of(netlist):
    return [*netlist[0], *[row[0] for rows in netlist[1:] for row in rows]]


def new_names(netlist, seed):
    """Words that stand in lines, by chance, for all NAMES."""
    words = sorted(set(WORDS))
    random.Random(seed).shuffle(words)
    return dict(zip(names_of(netlist), words))


def regated_by(netlist, seed):
    order = [gate[0] for gate in netlist[1]]
    random.Random(seed).shuffle(order)
    return regated(netlist, tuple(order))


def put_otherwise(netlist, seed):
    """NETLISTS by all that leaves all as it is but the NAMES."""
    found = [regated_by(netlist, seed)]
    for name, kind, pins, _ in netlist[1]:
        found.append(repinned(netlist, name))
        if len(pins) == 3:
            found.append(halved(netlist, name, "zzhalf"))
            if kind != "xor":
                found += [turned(found[-1], "zzhalf", "zzturn"), turned(found[-1], name, "zzturn")]
        if kind not in ("not", "xor"):
            found.append(turned(netlist, name, "zzturn"))
    return found


class LikeTest(unittest.TestCase):
    def need_refused(self, error, ask):
        with self.assertRaises(error) as refused:
            ask()
        self.assertIs(type(refused.exception), error)
        return refused.exception

    def need_signal(self, name, ask):
        self.assertIs(self.need_refused(NoSignal, ask).name, name)

    def test_what_is_no_netlist_is_refused_first(self):
        bad = (("a",), (("g", "not", ("x",), D),), (), ())
        for thing, place in [(thing, ()) for thing in no_tuples() + [()]] + [(bad, (1, 0)), (([],) * 4, (0,))]:
            for ask in (
                lambda: renamed(thing, 5),
                lambda: regated(thing, 5),
                lambda: repinned(thing, 5),
                lambda: halved(thing, 5, 5),
                lambda: turned(thing, 5, 5),
                lambda: unlike_end(thing, 5),
                lambda: unlike_end(HALF_TRUE, thing),
            ):
                self.assertEqual(self.need_refused(BadNetlist, ask).place, place)


class RenamedTest(LikeTest):
    def test_by_hand(self):
        names = {"a": "b", "b": "c", "c": "a", "g": "cut", "h": "none", "k": "k", "o": "p", "p": "o"}
        gates = (("cut", "and", ("b", "c"), ((2, 7),)), ("none", "nor", ("cut", "c"), ((1, 4),)))
        gates += (("k", "xor", ("none", "a"), ((3, 3),)),)
        other = (("b", "c", "a"), gates, (), (("p", "k"), ("o", "none")))
        self.assertEqual(renamed(netlist=HALF_TRUE, names=names), other)
        names = {"a": "s", "r": "a", "s": "r", "g": "h", "h": "o", "o": "g"}
        self.assertEqual(
            renamed(THREE, names)[2:],
            ((("a", "o", 3, 1, -20, 30), ("r", "h", 2, 4, -10, 0)), (("g", "o"),)),
        )

    def test_there_and_back(self):
        for seed, netlist in enumerate(some_netlists()):
            names = new_names(netlist, seed)
            ahead = dict(names)
            other = renamed(netlist, names)
            self.assertTrue(is_netlist(other))
            self.assertEqual(names_of(other), [names[name] for name in names_of(netlist)])
            self.assertEqual(renamed(other, {names[name]: name for name in names}), netlist)
            self.assertEqual(renamed(netlist, {name: name for name in names}), netlist)
            self.assertEqual(names, ahead)

    def test_what_is_no_new_names(self):
        good = new_names(HALF_TRUE, 1)
        others = no_texts() + ["abc", list(good.items()), tuple(good), {}]
        others += [{**good, "zz": "zz"}, {**good, "a": good["b"]}]
        others += [{name: good[name] for name in good if name != left} for left in good]
        others += [{**{name: good[name] for name in good if name != "o"}, "zz": good["o"]}]
        for thing in no_names():
            others.append({**good, "p": thing})
            if type(thing) not in (list, dict, set, Equal):
                others.append({**good, thing: "zz"})
        others.append({Equal(): "a"})
        for names in others:
            self.need_refused(BadEdit, lambda: renamed(HALF_TRUE, names))


class RegatedTest(LikeTest):
    def test_by_hand(self):
        self.assertEqual(regated(netlist=GOOD, order=("k", "g", "h"))[1], (GOOD[1][2], GOOD[1][0], GOOD[1][1]))
        self.assertEqual(regated(GOOD, ("g", "h", "k")), GOOD)
        self.assertEqual(regated(NO_GATES, ()), NO_GATES)

    def test_what_is_no_order(self):
        others = no_tuples() + [(), ("g", "h"), ("g", "h", "k", "k"), ("g", "h", "h"), ("g", "h", "a"), ["g", "h", "k"]]
        others += [("g", "h", thing) for thing in no_names()] + [(Equal(),) * 3, ("g", "h", "k", "zz"), deep(), "ghk"]
        for order in others:
            self.need_refused(BadEdit, lambda: regated(GOOD, order))

    def test_repinned(self):
        self.assertEqual(repinned(netlist=GOOD, gate="k")[1][2], ("k", "xor", ("h", "b", "a"), ((0, 9), (7, 7))))
        self.assertEqual(repinned(GOOD, "h"), GOOD)
        self.assertEqual(repinned(repinned(SIXTY, "f"), "f"), SIXTY)
        for gate in no_names() + ["a", "r", "o", "zz", ("g",)]:
            self.need_signal(gate, lambda: repinned(GOOD, gate))


class GateTest(LikeTest):
    def test_halved(self):
        for kind, new in (("and", "and"), ("nand", "and"), ("or", "or"), ("nor", "or"), ("xor", "xor")):
            delays = ((1, 2), (3, 4))
            gates = (("g", kind, ("a", "b", "c"), delays), ("h", "not", ("g",), delays))
            netlist = (("a", "b", "c"), gates, (), (("o", "h"),))
            half = (("n", new, ("a", "b"), ((0, 0), (0, 0))), ("g", kind, ("n", "c"), delays), gates[1])
            self.assertEqual(halved(netlist=netlist, gate="g", name="n"), (netlist[0], half, (), (("o", "h"),)))

    def test_turned(self):
        for kind, new in (("and", "nand"), ("nand", "and"), ("or", "nor"), ("nor", "or")):
            for pins in (("b", "a"), ("a", "b", "c")):
                gates = (("h", "not", ("g",), ((5, 6),)), ("g", kind, pins, ((1, 2),)))
                netlist = (("a", "b", "c"), gates, (), ())
                turn = (gates[0], ("n", new, pins, ((0, 0),)), ("g", "not", ("n",), ((1, 2),)))
                self.assertEqual(turned(netlist=netlist, gate="g", name="n"), (netlist[0], turn, (), ()))

    def test_no_gates(self):
        for gate in no_names() + ["a", "r", "o", "zz", ("g",)]:
            for ask in (halved, turned):
                self.need_signal(gate, lambda: ask(GOOD, gate, 5))

    def test_what_cant_be(self):
        for gate in ("g", "h"):
            self.need_refused(BadEdit, lambda: halved(GOOD, gate, "n"))
        for gate in ("h", "k"):
            self.need_refused(BadEdit, lambda: turned(GOOD, gate, "n"))
        self.need_refused(BadEdit, lambda: halved(FULL, "h", "z"))
        self.need_refused(BadEdit, lambda: turned(FULL, "h", "z"))

    def test_names(self):
        for name in no_names() + ["a", "b", "r", "s", "g", "h", "k", "o", "p"]:
            self.need_refused(BadEdit, lambda: halved(GOOD, "k", name))
            self.need_refused(BadEdit, lambda: turned(GOOD, "g", name))

    def test_fourteen_gates(self):
        self.assertEqual(len(FULL[1]), 14)
        for ask in (halved, turned):
            for name in no_names() + ["a", "g", "u", "o"]:
                self.need_refused(BadEdit, lambda: ask(FULL, "g", name))
            self.assertEqual(self.need_refused(TooMany, lambda: ask(FULL, "g", "z")).most, 14)
            thirteen = (FULL[0], FULL[1][:-1], *FULL[2:])
            self.assertEqual(len(ask(thirteen, "g", "z")[1]), 14)


class AlikeTest(LikeTest):
    def test_all_stays_as_it_is(self):
        found = 0
        for seed, netlist in enumerate([*some_netlists(12), NO_TRUE]):
            clock = random_clock(netlist, seed)
            ahead = self.told(netlist, clock)
            for other in put_otherwise(netlist, seed):
                found += 1
                self.assertTrue(is_netlist(other))
                self.assertEqual(self.told(other, clock), ahead)
                for name in names_of(netlist):
                    if name not in [row[0] for row in netlist[3]]:
                        self.assertEqual(table_of(other, name), table_of(netlist, name))
                self.assertIsNone(unlike_end(netlist, other))
                self.assertIsNone(unlike_end(other, netlist))
        self.assertGreater(found, 100)

    def told(self, netlist, clock):
        slacks = slacks_of(netlist, clock)
        many = (many_paths(netlist), len(all_true(netlist)))
        return [slacks, many, best_slack(netlist, period=clock[0]), least_period(netlist)]

    def test_by_other_names(self):
        for seed, netlist in enumerate(some_netlists(25)):
            clock = random_clock(netlist, seed)
            names = new_names(netlist, seed)
            other = renamed(netlist, names)
            ahead, behind = self.told(netlist, clock), self.told(other, clock)
            slacks = {(side, names[end], at): slack for (side, end, at), slack in ahead[0].items()}
            self.assertEqual(behind, [slacks, *ahead[1:]])
            for name in starts(netlist) + [gate[0] for gate in netlist[1]]:
                self.assertEqual(table_of(other, names[name]), table_of(netlist, name))


class UnlikeTest(LikeTest):
    def test_the_first_end_and_the_least_filling(self):
        netlist = (("a", "b"), (("g", "and", ("a", "b"), D),), (("r", "g", 0, 0, 0, 0),), (("o", "a"), ("p", "g")))
        other = (("a", "b"), (("g", "or", ("a", "b"), D),), netlist[2], netlist[3])
        self.assertEqual(unlike_end(netlist=netlist, other=other), ("r", (0, 1, 0)))
        other = (*netlist[:2], (("r", "g", 9, 9, -9, 9),), (("o", "b"), ("p", "r")))
        self.assertEqual(unlike_end(netlist, other), ("o", (0, 1, 0)))
        other = (*netlist[:3], (("o", "a"), ("p", "r")))
        self.assertEqual(unlike_end(netlist, other), ("p", (0, 0, 1)))
        self.assertIsNone(unlike_end(netlist, netlist))

    def test_other_gates_and_delays(self):
        other = (("a", "b", "c"), (("q", "not", ("c",), ((1, 2), (3, 4))),), (), (("o", "a"), ("p", "q")))
        self.assertEqual(unlike_end(HALF_TRUE, other), ("o", (0, 0, 0)))
        other = (("a", "b", "c"), (("n", "nor", ("b", "a"), D), ("m", "nor", ("n", "b"), D)), (), HALF_TRUE[3])
        self.need_refused(BadNetlist, lambda: unlike_end(HALF_TRUE, other))

    def test_by_the_words(self):
        for netlist in some_netlists(20)[3:]:
            for gate in netlist[1][:3]:
                kinds = {"not": "not", "and": "or", "or": "xor", "xor": "nand", "nand": "nor", "nor": "and"}
                gates = tuple((*row[:1], kinds[row[1]], *row[2:]) if row == gate else row for row in netlist[1])
                other = (netlist[0], gates, *netlist[2:])
                data = {row[0]: row[1] for row in netlist[2] + netlist[3]}
                found = []
                for end in ends_of(netlist):
                    for row in fillings(netlist):
                        told = dict(zip(starts(netlist), row))
                        if value_by_words(netlist, data[end], told) != value_by_words(other, data[end], told):
                            found.append((end, row))
                self.assertEqual(unlike_end(netlist, other), found[0] if found else None)

    def test_other_starts_or_ends(self):
        self.assertIsNone(unlike_end(NO_ENDS, NO_ENDS))
        for other in (
            (("a", "c", "b"), *HALF_TRUE[1:]),
            (("a", "b", "c", "d"), *HALF_TRUE[1:]),
            (*HALF_TRUE[:3], HALF_TRUE[3][::-1]),
            (*HALF_TRUE[:3], HALF_TRUE[3][:1]),
            (*HALF_TRUE[:3], ()),
            (("a", "b"), HALF_TRUE[1], (("c", "a", 0, 0, 0, 0),), HALF_TRUE[3]),
        ):
            self.assertTrue(is_netlist(other))
            self.need_refused(BadEdit, lambda: unlike_end(HALF_TRUE, other))
            self.need_refused(BadEdit, lambda: unlike_end(other, HALF_TRUE))


if __name__ == "__main__":
    unittest.main()
