import unittest
from itertools import permutations

from gateslack.errors import NoEnd, NoSignal
from gateslack.netlist import ends_of, is_path, many_paths, paths_of, starts_of
from samples import BACKWARD, GOOD, SIXTY, Equal, deep, no_names, no_tuples, random_netlist

PATHS = [
    ("a", "g", "h", "k", "o"),
    ("a", "g", "h", "r"),
    ("a", "k", "o"),
    ("a", "p"),
    ("b", "k", "o"),
    ("r", "g", "h", "k", "o"),
    ("r", "g", "h", "r"),
    ("s", "s"),
]


def tried_paths(netlist):
    """The PATHS, by trying all tuples of GATES between all STARTS and ENDS."""
    pins = {row[0]: row[2] for row in netlist[1]}
    data = {row[0]: row[1] for row in netlist[2] + netlist[3]}
    found = []
    for many in range(len(pins) + 1):
        for gates in permutations(pins, many):
            if all(ahead in pins[gate] for ahead, gate in zip(gates, gates[1:])):
                firsts = [start for start in starts_of(netlist) if not gates or start in pins[gates[0]]]
                found += [(start, *gates, end) for start in firsts for end in data if data[end] == (start, *gates)[-1]]
    return sorted(found)


class PathsTest(unittest.TestCase):
    def test_all(self):
        self.assertEqual(paths_of(GOOD), PATHS)
        self.assertEqual(paths_of(netlist=GOOD, start=None, end=None), PATHS)
        self.assertEqual(paths_of(BACKWARD), [("a", "y", "x", "o")])
        self.assertEqual(paths_of((("a",), (), (), ())), [])
        self.assertIs(type(paths_of(GOOD)), list)
        self.assertEqual({type(path) for path in paths_of(GOOD)}, {tuple})

    def test_of_a_start_to_an_end(self):
        for start in [None, *starts_of(GOOD)]:
            for end in [None, *ends_of(GOOD)]:
                wanted = [path for path in PATHS if start in (None, path[0]) and end in (None, path[-1])]
                self.assertEqual(paths_of(GOOD, start=start, end=end), wanted)

    def test_they_rise(self):
        self.assertEqual(paths_of(SIXTY), sorted(paths_of(SIXTY)))
        self.assertEqual(len(paths_of(SIXTY)), 60)
        netlist = (("b", "a"), (), (("z", "b", 0, 0, 0, 0),), (("y", "a"), ("x", "b"), ("w", "z")))
        self.assertEqual(paths_of(netlist), [("a", "y"), ("b", "x"), ("b", "z"), ("z", "w")])

    def test_by_seeds(self):
        for seed in range(150):
            netlist = random_netlist(seed)
            tried = tried_paths(netlist)
            self.assertEqual(paths_of(netlist), tried)
            self.assertEqual(many_paths(netlist), len(tried))

    def test_no_start(self):
        for start in ["g", "k", "o", "zz", *no_names()]:
            if start is None:
                continue
            for end in (None, "o", "zz", deep()):
                with self.assertRaises(NoSignal) as caught:
                    paths_of(GOOD, start=start, end=end)
                self.assertIs(caught.exception.name, start)

    def test_no_end(self):
        for end in ["g", "k", "a", "zz", *no_names()]:
            if end is None:
                continue
            for start in (None, "a", "s"):
                with self.assertRaises(NoEnd) as caught:
                    paths_of(GOOD, start=start, end=end)
                self.assertIs(caught.exception.name, end)

    def test_by_names_alone(self):
        with self.assertRaises(TypeError):
            paths_of(GOOD, "a")


class IsPathTest(unittest.TestCase):
    def test_paths(self):
        for path in PATHS:
            self.assertIs(is_path(GOOD, path), True)
        self.assertIs(is_path(netlist=GOOD, thing=("s", "s")), True)

    def test_other_tuples_of_names(self):
        others = [("a",), ("a", "g"), ("a", "o"), ("g", "h", "r"), ("k", "o"), ("a", "h", "r"), ("r", "r"), ("o", "o")]
        others += [path[::-1] for path in PATHS if len(path) > 2] + [path[1:] for path in PATHS]
        others += [path[:-1] for path in PATHS] + [path + path[-1:] for path in PATHS]
        for path in others:
            self.assertIs(is_path(GOOD, path), False, path)

    def test_each_tuple_of_names_of_a_small_netlist(self):
        names = ("a", "b", "g", "h", "k", "r", "s", "o", "p")
        for many in range(5):
            for path in permutations(names, many):
                self.assertIs(is_path(GOOD, path), path in PATHS)

    def test_anything(self):
        for thing in no_tuples() + no_names() + [(), deep(), list(PATHS[0]), "ap", b"ap", {"a": 1, "p": 2}]:
            self.assertIs(is_path(GOOD, thing), False)
        for thing in no_names() + [Equal()]:
            self.assertIs(is_path(GOOD, ("a", thing)), False)
            self.assertIs(is_path(GOOD, (thing, "p")), False)
            self.assertIs(is_path(GOOD, (thing,)), False)


class ManyPathsTest(unittest.TestCase):
    def test_many(self):
        for netlist, many in ((GOOD, 8), (BACKWARD, 1), (SIXTY, 60), ((("a",), (), (), ()), 0)):
            self.assertEqual(many_paths(netlist), many)
        self.assertEqual(many_paths(netlist=GOOD), 8)


if __name__ == "__main__":
    unittest.main()
