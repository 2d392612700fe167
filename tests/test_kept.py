import copy
import unittest

from gateslack.errors import BadNetlist, NoEnd, NoSignal
from gateslack.netlist import cone_of, corners_of, ends_of, fed_by, is_netlist, is_path, many_paths, need_netlist
from gateslack.netlist import order_of, paths_of, pins_of, starts_of
from gateslack.words import is_name, is_whole, number_in
from samples import BACKWARD, D, GOOD, SIXTY, random_netlist


def all_told(netlist):
    """All that the functions tell of a NETLIST."""
    told = [is_netlist(netlist), need_netlist(netlist), starts_of(netlist), ends_of(netlist), order_of(netlist)]
    told += [corners_of(netlist), many_paths(netlist), paths_of(netlist)]
    gates = order_of(netlist)
    told += [fed_by(netlist, name) for name in starts_of(netlist) + gates]
    told += [ask(netlist, name) for ask in (pins_of, cone_of) for name in gates + ends_of(netlist)]
    told += [paths_of(netlist, start=start) for start in starts_of(netlist)]
    told += [paths_of(netlist, end=end) for end in ends_of(netlist)]
    return told + [is_path(netlist, path) for path in paths_of(netlist)]


class HandedInTest(unittest.TestCase):
    def test_a_netlist_is_not_changed(self):
        for netlist in (GOOD, BACKWARD, SIXTY, random_netlist(7)):
            ahead = copy.deepcopy(netlist)
            all_told(netlist)
            self.assertEqual(netlist, ahead)

    def test_what_is_refused_is_not_changed(self):
        for thing in (
            [["a"], [], [], []],
            (["a", "b"], [], {}, []),
            (("a",), [["g", "not", ["a"], [[1, 2]]]], (), ()),
            (("a",), (["g", "not", ["a"], [[1, 2]]],), (), ()),
            (("a",), (("g", "not", ["a"], [[1, 2]]),), (), ()),
            (("a",), (("g", "not", ("a",), [[2, 1]]),), (), ()),
            (("a",), (), (["r", "a", 0, 0, 0, 0],), ()),
            (("a",), (), (), (["o", "a"],)),
        ):
            ahead = copy.deepcopy(thing)
            with self.assertRaises(BadNetlist):
                need_netlist(thing)
            self.assertIs(is_netlist(thing), False)
            self.assertEqual(thing, ahead)

    def test_other_things_are_not_changed(self):
        for thing in (["a", "o"], {"a": ["o"]}, (["a"], "o")):
            ahead = copy.deepcopy(thing)
            for ask in (pins_of, fed_by, cone_of):
                with self.assertRaises(NoSignal):
                    ask(GOOD, thing)
            with self.assertRaises(NoSignal):
                paths_of(GOOD, start=thing)
            with self.assertRaises(NoEnd):
                paths_of(GOOD, end=thing)
            self.assertEqual((is_path(GOOD, thing), is_name(thing), is_whole(thing)), (False, False, False))
            self.assertIsNone(number_in(thing))
            self.assertEqual(thing, ahead)

    def test_nothing_is_kept(self):
        gate = ["g", "not", ("a",), D]
        for name, good in (("g", True), ("a", False), ("g", True)):
            gate[0] = name
            self.assertIs(is_netlist((("a",), (tuple(gate),), (), (("o", "g"),))), good)
        self.assertEqual(paths_of((("a",), (), (), (("o", "a"),))), [("a", "o")])
        self.assertEqual(paths_of((("b",), (), (), (("o", "b"),))), [("b", "o")])


class ToldTest(unittest.TestCase):
    def test_asked_again_the_same_is_told(self):
        for netlist in (GOOD, BACKWARD, SIXTY, random_netlist(7)):
            self.assertEqual(all_told(netlist), all_told(netlist))

    def test_a_told_list_is_the_askers_own(self):
        for ask in (lambda: paths_of(GOOD), lambda: paths_of(GOOD, start="a", end="o"), lambda: fed_by(GOOD, "a")):
            told = ask()
            ahead = list(told)
            self.assertIsNot(ask(), told)
            told.append("more")
            del told[0]
            self.assertEqual(ask(), ahead)

    def test_a_told_list_stays_as_it_is(self):
        told = paths_of(GOOD)
        ahead = list(told)
        all_told(SIXTY)
        all_told(GOOD)
        self.assertEqual(told, ahead)


if __name__ == "__main__":
    unittest.main()
