import unittest

from gateslack.errors import NoSignal
from gateslack.netlist import cone_of, corners_of, ends_of, fed_by, order_of, pins_of, starts_of
from samples import BACKWARD, GOOD, SIXTY, no_names, random_netlist

EMPTY = (("a",), (), (), ())


class SignalTest(unittest.TestCase):
    def assert_no_signal(self, ask, netlist, name):
        with self.assertRaises(NoSignal) as caught:
            ask(netlist, name)
        self.assertIs(caught.exception.name, name)

    def assert_refuses_all_else(self, ask, netlist, names):
        for name in [*names, "zz", "abcdefgh", *no_names()]:
            self.assert_no_signal(ask, netlist, name)


class ListTest(SignalTest):
    def test_starts(self):
        self.assertEqual(starts_of(GOOD), ("a", "b", "r", "s"))
        self.assertEqual(starts_of(netlist=EMPTY), ("a",))
        self.assertEqual(starts_of(((), (), (("r", "r", 0, 0, 0, 0),), ())), ("r",))

    def test_ends(self):
        self.assertEqual(ends_of(GOOD), ("r", "s", "o", "p"))
        self.assertEqual(ends_of(netlist=EMPTY), ())

    def test_corners(self):
        self.assertEqual(corners_of(GOOD), 2)
        self.assertEqual(corners_of(netlist=EMPTY), 1)
        for many in (1, 2, 3):
            self.assertEqual(corners_of((("a",), (("g", "not", ("a",), ((0, 0),) * many),), (), ())), many)

    def test_order(self):
        self.assertEqual(order_of(GOOD), ("g", "h", "k"))
        self.assertEqual(order_of(netlist=EMPTY), ())
        self.assertEqual(order_of(BACKWARD), ("y", "x", "z"))

    def test_order_by_seeds(self):
        for seed in range(200):
            netlist = random_netlist(seed)
            gates = netlist[1]
            done = []
            while len(done) < len(gates):
                for name, _, pins, _ in gates:
                    fed = [pin for pin in pins if pin in [row[0] for row in gates]]
                    if name not in done and all(pin in done for pin in fed):
                        done.append(name)
                        break
            self.assertEqual(order_of(netlist), tuple(done))

    def test_all_are_tuples(self):
        for told in (starts_of(GOOD), ends_of(GOOD), order_of(GOOD)):
            self.assertIs(type(told), tuple)


class PinsTest(SignalTest):
    def test_gates_and_ends(self):
        for name, pins in (
            ("g", ("a", "r")), ("h", ("g",)), ("k", ("a", "b", "h")),
            ("r", ("h",)), ("s", ("s",)), ("o", ("k",)), ("p", ("a",)),
        ):
            self.assertEqual(pins_of(GOOD, name), pins)
            self.assertIs(type(pins_of(GOOD, name)), tuple)
        self.assertEqual(pins_of(netlist=GOOD, name="g"), ("a", "r"))

    def test_all_else(self):
        self.assert_refuses_all_else(pins_of, GOOD, ["a", "b"])
        self.assert_refuses_all_else(pins_of, EMPTY, ["a"])


class FedByTest(SignalTest):
    def test_starts_and_gates(self):
        for name, fed in (
            ("a", ["g", "k", "p"]), ("b", ["k"]), ("r", ["g"]), ("s", ["s"]),
            ("g", ["h"]), ("h", ["k", "r"]), ("k", ["o"]),
        ):
            self.assertEqual(fed_by(GOOD, name), fed)
            self.assertIs(type(fed_by(GOOD, name)), list)
        self.assertEqual(fed_by(netlist=GOOD, name="a"), ["g", "k", "p"])

    def test_in_the_netlists_order(self):
        self.assertEqual(fed_by(BACKWARD, "a"), ["y", "z"])
        gates = (("z", "not", ("x",), ((0, 0),)), ("x", "not", ("a",), ((0, 0),)), ("b", "not", ("a",), ((0, 0),)))
        registers = (("t", "a", 0, 0, 0, 0), ("c", "a", 0, 0, 0, 0))
        netlist = (("a",), gates, registers, (("y", "a"), ("d", "a")))
        self.assertEqual(fed_by(netlist, "a"), ["x", "b", "t", "c", "y", "d"])

    def test_one_that_feeds_nothing(self):
        self.assertEqual(fed_by(EMPTY, "a"), [])
        self.assertEqual(fed_by(BACKWARD, "z"), [])

    def test_all_else(self):
        self.assert_refuses_all_else(fed_by, GOOD, ["o", "p"])

    def test_by_seeds(self):
        for seed in range(100):
            netlist = random_netlist(seed)
            _, gates, registers, outputs = netlist
            for name in starts_of(netlist) + order_of(netlist):
                fed = [row[0] for row in gates if name in row[2]]
                fed += [row[0] for row in registers + outputs if row[1] == name]
                self.assertEqual(fed_by(netlist, name), fed)


class ConeTest(SignalTest):
    def test_gates_and_ends(self):
        for name, cone in (
            ("g", ("g",)), ("h", ("g", "h")), ("k", ("g", "h", "k")),
            ("r", ("g", "h")), ("s", ()), ("o", ("g", "h", "k")), ("p", ()),
        ):
            self.assertEqual(cone_of(GOOD, name), cone)
            self.assertIs(type(cone_of(GOOD, name)), tuple)
        self.assertEqual(cone_of(netlist=GOOD, name="r"), ("g", "h"))

    def test_in_order(self):
        self.assertEqual(cone_of(BACKWARD, "x"), ("y", "x"))
        self.assertEqual(cone_of(BACKWARD, "z"), ("z",))
        self.assertEqual(cone_of(SIXTY, "n"), ("e", "f", "g", "h"))

    def test_it_ends_at_registers(self):
        gates = (("g", "not", ("r",), ((0, 0),)), ("h", "not", ("g",), ((0, 0),)))
        netlist = ((), gates, (("r", "h", 0, 0, 0, 0),), (("o", "g"),))
        self.assertEqual(cone_of(netlist, "g"), ("g",))
        self.assertEqual(cone_of(netlist, "o"), ("g",))
        self.assertEqual(cone_of(netlist, "r"), ("g", "h"))

    def test_all_else(self):
        self.assert_refuses_all_else(cone_of, GOOD, ["a", "b"])

    def test_by_seeds(self):
        for seed in range(100):
            netlist = random_netlist(seed)
            pins = {row[0]: row[2] for row in netlist[1]}
            data = {row[0]: row[1] for row in netlist[2] + netlist[3]}

            def feeds(gate, name):
                return gate == name or any(feeds(gate, pin) for pin in pins.get(name, ()))

            for name in list(pins) + list(data):
                cone = [gate for gate in order_of(netlist) if feeds(gate, data.get(name, name))]
                self.assertEqual(cone_of(netlist, name), tuple(cone))


if __name__ == "__main__":
    unittest.main()
