import itertools
import unittest

from bywords import all_openings, all_true, beside, first_fault, starts
from gateslack.errors import BadPaper, BadPath, NoEnd, NoSignal
from gateslack.netlist import paths_of
from gateslack.reading import cases_in
from gateslack.showing import cases_text
from gateslack.truth import are_cases, cases_of, does_open, is_true, need_cases
from gateslack.truth import opening, openings, side_pins, true_paths
from samples import D, Equal, GOOD, HALF_TRUE, NO_ENDS, NO_GATES, NO_TRUE, SIXTY, SIX_STARTS, THREE
from samples import deep, no_names, no_tuples, no_wholes, some_netlists

# Of HALF_TRUE, FALSE.
SHUT = ("a", "g", "h", "p")
SHUT_CASES = ("ask", "b", ("cut", "g", "b"), ("cut", "h", "b"))


def no_paths(netlist):
    """Things that are no PATHS of a NETLIST."""
    paths = paths_of(netlist)
    others = no_tuples() + [(), deep(), (Equal(), Equal()), Equal()]
    for path in paths[:4]:
        others += [path[1:], path[:-1], path[::-1], (*path, path[-1]), list(path), " ".join(path), (path,)]
        others += [(*path[:-1], name) for name in no_names()[:12] + [Equal(), "zzzz", path[0]]]
    return [thing for thing in others if type(thing) is not tuple or not any(thing is path for path in paths)]


def parts_of(cases, way=()):
    """(WAY, part) of all parts, each ahead of those within it."""
    found = [(way, cases)]
    if cases[0] == "ask":
        found += parts_of(cases[2], (*way, 0)) + parts_of(cases[3], (*way, 1))
    return found


def otherwise(cases, way, part):
    """CASES with another part at that WAY."""
    if not way:
        return part
    at = 2 + way[0]
    return (*cases[:at], otherwise(cases[at], way[1:], part), *cases[at + 1 :])


class TruthTest(unittest.TestCase):
    def need_no_path(self, ask):
        with self.assertRaises(BadPath) as refused:
            ask()
        self.assertIs(type(refused.exception), BadPath)

    def need_way(self, netlist, path, thing, way):
        self.assertIs(are_cases(netlist, path, thing), False)
        with self.assertRaises(BadPaper) as refused:
            need_cases(netlist, path, thing)
        told = (type(refused.exception), type(refused.exception.place), refused.exception.place)
        self.assertEqual(told, (BadPaper, tuple, way))


class PathTest(TruthTest):
    def test_what_is_no_path_is_refused_ahead_of_all_else(self):
        for netlist in (GOOD, HALF_TRUE, NO_GATES, NO_ENDS):
            for thing in no_paths(netlist):
                for ask in (side_pins, openings, opening, is_true, cases_of):
                    self.need_no_path(lambda: ask(netlist, thing))
                for ask in (does_open, are_cases, need_cases):
                    for other in ((0, 0), None, SHUT_CASES, deep(), Equal()):
                        self.need_no_path(lambda: ask(netlist, thing, other))

    def test_a_path_of_another_netlist(self):
        self.need_no_path(lambda: is_true(GOOD, SHUT))
        self.need_no_path(lambda: side_pins(HALF_TRUE, ("a", "p")))


class SidePinTest(TruthTest):
    def test_side_pins(self):
        self.assertEqual(side_pins(GOOD, ("a", "p")), [])
        self.assertEqual(side_pins(GOOD, ("a", "g", "h", "k", "o")), [("g", "r"), ("k", "a"), ("k", "b")])
        self.assertEqual(side_pins(netlist=GOOD, path=("b", "k", "o")), [("k", "a"), ("k", "h")])
        self.assertEqual(side_pins(NO_GATES, ("a", "r")), [])
        self.assertEqual(side_pins(THREE, ("r", "h", "r")), [("h", "s")])

    def test_by_the_words(self):
        for netlist in some_netlists():
            for path in paths_of(netlist):
                self.assertEqual(side_pins(netlist, path), beside(netlist, path))


class OpeningTest(TruthTest):
    def test_what_lets_through(self):
        for kind, through in (("and", 1), ("nand", 1), ("or", 0), ("nor", 0), ("xor", None)):
            for many in (2, 3):
                pins = ("a", "b", "c")[:many]
                netlist = (pins, (("g", kind, pins, D),), (), (("o", "g"),))
                good = [
                    row
                    for row in itertools.product((0, 1), repeat=many)
                    if through is None or all(value == through for value in row[1:])
                ]
                self.assertEqual(openings(netlist, ("a", "g", "o")), good)
                self.assertEqual(opening(netlist, ("a", "g", "o")), good[0])

    def test_not_has_no_side_pins(self):
        netlist = (("a",), (("g", "not", ("a",), D),), (), (("o", "g"),))
        self.assertEqual(openings(netlist, ("a", "g", "o")), [(0,), (1,)])

    def test_by_the_words(self):
        for netlist in some_netlists():
            rows = list(itertools.product((0, 1), repeat=len(starts(netlist))))
            for path in paths_of(netlist):
                good = all_openings(netlist, path)
                self.assertEqual(openings(netlist=netlist, path=path), good)
                self.assertEqual(opening(netlist=netlist, path=path), good[0] if good else None)
                self.assertIs(is_true(netlist=netlist, path=path), good != [])
                for filling in rows[:: max(1, len(rows) // 9)]:
                    self.assertIs(does_open(netlist=netlist, path=path, filling=filling), filling in good)

    def test_anything_else_opens_nothing(self):
        path = ("a", "p")
        self.assertIs(does_open(GOOD, path, (0, 0, 0, 0)), True)
        others = no_tuples() + [(), (0, 0, 0), (0,) * 5, (None,) * 4, (0, 0, 0, None), [0, 0, 0, 0], deep(), "0000"]
        others += [(0, 0, 0, value) for value in no_wholes() + [2, -1, 10**5000]] + [(Equal(),) * 4]
        for thing in others:
            self.assertIs(does_open(GOOD, path, thing), False)

    def test_a_told_list_is_the_askers_own(self):
        for ask in (
            lambda: openings(GOOD, ("a", "p")),
            lambda: side_pins(GOOD, ("b", "k", "o")),
            lambda: true_paths(GOOD),
        ):
            told = ask()
            ahead = list(told)
            told.append(5)
            del told[0]
            self.assertEqual(ask(), ahead)


class TruePathTest(TruthTest):
    def test_by_the_words(self):
        for netlist in some_netlists():
            good = all_true(netlist)
            self.assertEqual(true_paths(netlist), good)
            self.assertEqual(true_paths(netlist=netlist, start=None, end=None), good)
            ends = [row[0] for row in netlist[2] + netlist[3]]
            for start in starts(netlist):
                self.assertEqual(true_paths(netlist, start=start), [path for path in good if path[0] == start])
                for end in ends[:2]:
                    both = [path for path in good if (path[0], path[-1]) == (start, end)]
                    self.assertEqual(true_paths(netlist, start=start, end=end), both)
            for end in ends:
                self.assertEqual(true_paths(netlist, end=end), [path for path in good if path[-1] == end])

    def test_edges(self):
        self.assertEqual((true_paths(NO_ENDS), true_paths(NO_TRUE)), ([], []))
        self.assertEqual(true_paths(NO_GATES), [("a", "r")])
        self.assertEqual(true_paths(THREE, start="r", end="r"), [("r", "h", "r")])
        self.assertEqual(true_paths(HALF_TRUE, end="p"), [("b", "g", "h", "p"), ("b", "h", "p")])
        self.assertEqual(true_paths(HALF_TRUE, start="a"), [])
        self.assertEqual(len(paths_of(SIXTY)), 60)

    def test_refused_as_paths_of(self):
        for name in no_names() + ["zzzz", "g", "o"]:
            if name is not None:
                with self.assertRaises(NoSignal) as refused:
                    true_paths(GOOD, start=name, end=5)
                self.assertIs(refused.exception.name, name)
        for name in no_names() + ["zzzz", "g", "a"]:
            if name is not None:
                with self.assertRaises(NoEnd) as refused:
                    true_paths(GOOD, start="a", end=name)
                self.assertIs(refused.exception.name, name)

    def test_handed_in_by_their_names_alone(self):
        with self.assertRaises(TypeError):
            true_paths(GOOD, "a")


class CasesTest(TruthTest):
    def test_a_false_path_has_some(self):
        found = 0
        for netlist in some_netlists(80):
            good = all_true(netlist)
            for path in paths_of(netlist):
                cases = cases_of(netlist, path)
                if path in good:
                    self.assertIsNone(cases)
                    continue
                found += 1
                self.assertIs(are_cases(netlist, path, cases), True)
                self.assertIsNone(need_cases(netlist=netlist, path=path, thing=cases))
                self.assertIsNone(first_fault(netlist, path, cases, dict.fromkeys(starts(netlist))))
                self.assertEqual(cases_in(cases_text(cases)), cases)
        self.assertGreater(found, 100)

    def test_each_part_otherwise(self):
        for netlist in [HALF_TRUE, NO_TRUE, SIX_STARTS, *some_netlists(25)[10:]]:
            for path in paths_of(netlist):
                cases = cases_of(netlist, path)
                if cases is None:
                    continue
                for way, part in parts_of(cases)[:12]:
                    for other in (None, "cut", (), part[:-1], (*part, part[-1]), list(part), ("maybe", *part[1:])):
                        self.need_way(netlist, path, otherwise(cases, way, other), way)

    def test_each_cut_and_ask_by_the_words(self):
        for netlist in [HALF_TRUE, NO_TRUE, *some_netlists(25)[10:]]:
            names = starts(netlist)
            cuts = [("cut", gate[0], pin) for gate in netlist[1] for pin in gate[2]]
            for path in paths_of(netlist):
                cases = cases_of(netlist, path)
                for way, part in parts_of(cases)[:6] if cases else []:
                    asks = [("ask", name, part, part) for name in names]
                    for other in cuts[:9] + asks:
                        thing = otherwise(cases, way, other)
                        fault = first_fault(netlist, path, thing, dict.fromkeys(names))
                        if fault is None:
                            self.assertIs(are_cases(netlist, path, thing), True)
                        else:
                            self.need_way(netlist, path, thing, fault)

    def test_a_true_path_has_none(self):
        path = ("b", "h", "p")
        cut_0, cut_1 = SHUT_CASES[2:]
        for thing in (SHUT_CASES, cut_0, ("cut", "h", "g"), ("ask", "b", ("cut", "h", "g"), ("cut", "h", "g"))):
            self.assertIs(are_cases(HALF_TRUE, path, thing), False)
        self.need_way(HALF_TRUE, path, SHUT_CASES, (0,))
        self.need_way(HALF_TRUE, path, ("ask", "b", ("ask", "a", cut_0, cut_1), cut_1), (0, 0))

    def test_the_first_part_is_told(self):
        self.assertIsNone(need_cases(HALF_TRUE, SHUT, SHUT_CASES))
        cut_0, cut_1 = SHUT_CASES[2:]
        for thing, way in (
            (cut_0, ()),
            (("cut", "g", "a"), ()),
            (("cut", "k", "c"), ()),
            (("ask", "b", cut_1, cut_0), (0,)),
            (("ask", "b", cut_0, cut_0), (1,)),
            (("ask", "b", None, None), (0,)),
            (("ask", "b", cut_0, None), (1,)),
            (("ask", "b", ("ask", "b", cut_0, cut_1), None), (0,)),
            (("ask", "a", SHUT_CASES, ("ask", "a", cut_0, cut_0)), (1,)),
            (("ask", "a", SHUT_CASES, ("ask", "b", cut_0, ("ask", "c", cut_1, cut_0))), (1, 1, 1)),
            (("ask", "g", cut_0, cut_1), ()),
            (("ask", "p", cut_0, cut_1), ()),
            (("ask", "zzzz", None, None), ()),
            (("ask", "c", ("ask", "a", SHUT_CASES, cut_0), None), (0, 1)),
        ):
            self.need_way(HALF_TRUE, SHUT, thing, way)
        self.assertIs(are_cases(HALF_TRUE, SHUT, ("ask", "c", SHUT_CASES, ("ask", "a", SHUT_CASES, SHUT_CASES))), True)

    def test_what_isnt_decided_is_no_cut(self):
        # g is 0 by each FILLING, but DECIDED by none of its PINS while a is None.
        path = ("a", "n", "z", "g", "o")
        self.need_way(NO_TRUE, path, ("cut", "g", "y"), ())
        cut = ("cut", "g", "y")
        self.assertIsNone(need_cases(NO_TRUE, path, ("ask", "a", cut, cut)))
        self.assertIsNone(need_cases(NO_TRUE, path, ("ask", "r", ("ask", "a", cut, cut), ("ask", "a", cut, cut))))

    def test_anything_else(self):
        others = no_tuples() + [(), deep(), ("cut",), ("cut", "g"), ("ask", "b"), ("cut", "g", "b", "b")]
        others += [(Equal(),) * 3, (Equal(),) * 4, ("ask", "b", *SHUT_CASES), "cut", ("ask b", "cut g b", "cut h b")]
        for name in no_names():
            others += [(name, "b", *SHUT_CASES[2:]), ("ask", name, *SHUT_CASES[2:])]
            others += [(name, "g", "b"), ("cut", name, "b"), ("cut", "g", name)]
        for thing in others:
            self.need_way(HALF_TRUE, SHUT, thing, ())
            self.need_way(HALF_TRUE, SHUT, ("ask", "b", thing, thing), (0,))
            self.need_way(HALF_TRUE, SHUT, ("ask", "b", SHUT_CASES[2], thing), (1,))
            self.need_way(HALF_TRUE, SHUT, ("ask", "c", ("ask", "b", SHUT_CASES[2], thing), None), (0, 1))

    def test_six_asks_within_one_another(self):
        # d shuts h by 0; asked last of six.
        gates = (("m", "not", ("d",), D), ("q", "and", ("h", "m"), D), ("k", "xor", ("q", "s"), D))
        netlist = (SIX_STARTS[0], SIX_STARTS[1][:2] + gates, *SIX_STARTS[2:])
        path = ("a", "g", "h", "q", "k", "r")
        cases = ("ask", "d", ("cut", "h", "d"), ("cut", "q", "m"))
        for start in ("a", "b", "c", "r", "s"):
            self.assertIs(are_cases(netlist, path, cases), True)
            cases = ("ask", start, cases, cases)
        self.assertIs(are_cases(netlist, path, cases), True)
        self.need_way(netlist, path, ("ask", "r", cases, cases), (0, 0))


if __name__ == "__main__":
    unittest.main()
