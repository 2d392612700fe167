import unittest

from gateslack.errors import BadNetlist
from gateslack.netlist import KINDS, MOST_PATHS, is_netlist, many_paths, need_netlist
from samples import BACKWARD, D, GOOD, SIXTY, SIXTY_ONE, deep, no_names, no_tuples, no_wholes
from samples import random_netlist


def gate(name="g", kind="and", pins=("a", "b"), delays=D):
    return (name, kind, pins, delays)


def with_gates(*gates):
    return (("a", "b", "c", "d"), gates, (), ())


def with_registers(*registers):
    return (("a",), (gate(pins=("a", "r")),), registers, ())


def chain(many, first="a"):
    """So many GATES, each fed by the one ahead alone."""
    names = [first] + ["g" + letter for letter in "abcdefghijklmnopqrstuvwxyz"[:many]]
    return tuple(gate(name, "not", (ahead,)) for ahead, name in zip(names, names[1:]))


class PlaceTest(unittest.TestCase):
    def assert_place(self, thing, place):
        self.assertIs(is_netlist(thing), False)
        with self.assertRaises(BadNetlist) as caught:
            need_netlist(thing)
        self.assertEqual(caught.exception.place, place)
        self.assertIs(type(caught.exception.place), tuple)
        self.assertEqual(caught.exception.__class__, BadNetlist)

    def assert_good(self, thing):
        self.assertIs(is_netlist(thing), True)
        self.assertIsNone(need_netlist(thing))


class GoodTest(PlaceTest):
    def test_constants(self):
        self.assertEqual(KINDS, ("not", "and", "nand", "or", "nor", "xor"))
        self.assertEqual(MOST_PATHS, 60)

    def test_good_ones(self):
        for netlist in (GOOD, BACKWARD, SIXTY, (("a",), (), (), ()), ((), (), (("r", "r", 0, 0, 0, 0),), ())):
            self.assert_good(netlist)
        self.assertIsNone(need_netlist(thing=GOOD))
        self.assertIs(is_netlist(thing=GOOD), True)

    def test_good_ones_by_seeds(self):
        for seed in range(200):
            netlist = random_netlist(seed)
            if many_paths(netlist) <= 60:
                self.assert_good(netlist)
            else:
                self.assert_place(netlist, (1,))

    def test_each_kind(self):
        for kind in KINDS:
            for many in range(6):
                netlist = with_gates(gate(kind=kind, pins=("a", "b", "c", "d", "e")[:many]))
                if many in ((1,) if kind == "not" else (2, 3)):
                    self.assert_good(netlist)
                else:
                    self.assert_place(netlist, (1, 0))


class FourTest(PlaceTest):
    def test_no_tuple_of_four(self):
        for thing in no_tuples():
            self.assert_place(thing, ())
        for thing in ((), (("a",),), GOOD[:3], GOOD + ((),), deep(), deep(3), deep(30000)):
            self.assert_place(thing, ())

    def test_no_tuple_among_the_four(self):
        for four in range(4):
            for thing in no_tuples():
                self.assert_place(GOOD[:four] + (thing,) + GOOD[four + 1:], (four,))

    def test_four_are_looked_at_in_their_order(self):
        self.assert_place((["a"], [], [], []), (0,))
        self.assert_place((("a",), [], [], []), (1,))
        self.assert_place((("A",), [], [], []), (0, 0))
        self.assert_place((("a",), (gate(kind="no"),), [], []), (1, 0))
        self.assert_place((("a",), (gate(pins=("a", "zz")),), [], []), (2,))
        self.assert_place((("a",), (gate(pins=("a", "zz")),), (None,), []), (2, 0))
        self.assert_place((("a",), (gate(pins=("a", "zz")),), (), [None]), (3,))
        self.assert_place((("a",), (gate(pins=("a", "zz")),), (), (None,)), (3, 0))
        self.assert_place(((), (), (), (None,)), (3, 0))

    def test_deep_things_stand_nowhere(self):
        for thing in (deep(), deep(kind=list), deep(kind=dict)):
            self.assert_place((("a", thing), (), (), ()), (0, 1))
            self.assert_place((("a",), (thing,), (), ()), (1, 0))
            self.assert_place((("a",), (), (thing,), ()), (2, 0))
            self.assert_place((("a",), (), (), (thing,)), (3, 0))


class InputTest(PlaceTest):
    def test_how_many(self):
        names = ("a", "b", "c", "d", "e", "f", "g")
        for many in range(8):
            netlist = (names[:many], (), (), ())
            if 1 <= many <= 5:
                self.assert_good(netlist)
            else:
                self.assert_place(netlist, (0,))

    def test_too_many_is_told_ahead_of_what_they_are(self):
        self.assert_place(((None,) * 6, (), (), ()), (0,))

    def test_names(self):
        self.assert_good((("abcdefgh",), (), (), ()))
        self.assert_place((("abcdefghi",), (), (), ()), (0, 0))
        for thing in no_names():
            self.assert_place((("a", thing, "b"), (), (), ()), (0, 1))

    def test_name_that_stood_ahead(self):
        self.assert_place((("a", "b", "a", "A"), (), (), ()), (0, 2))


class GateTest(PlaceTest):
    def test_how_many(self):
        self.assert_good((("a",), chain(14), (), ()))
        self.assert_place((("a",), chain(15), (), ()), (1,))
        self.assert_place((("a",), (None,) * 15, (), ()), (1,))

    def test_no_tuple_of_four(self):
        for thing in no_tuples() + [(), gate()[:3], gate() + (1,), deep()]:
            self.assert_place(with_gates(gate("f"), thing), (1, 1))

    def test_name(self):
        self.assert_good(with_gates(gate("abcdefgh")))
        for thing in no_names():
            self.assert_place(with_gates(gate(thing)), (1, 0))

    def test_kind(self):
        for thing in no_names() + ["ands", "an", "xnor", "buf", "AND", "g", "a"]:
            self.assert_place(with_gates(gate(kind=thing)), (1, 0))
            self.assert_place(with_gates(gate(kind=thing, pins=("a",))), (1, 0))

    def test_pins(self):
        for thing in no_tuples() + [deep()]:
            self.assert_place(with_gates(gate(pins=thing)), (1, 0))
        for thing in no_names():
            self.assert_place(with_gates(gate(pins=("a", thing))), (1, 0))
            self.assert_place(with_gates(gate(kind="not", pins=(thing,))), (1, 0))

    def test_pins_are_unlike(self):
        self.assert_place(with_gates(gate(pins=("a", "a"))), (1, 0))
        self.assert_place(with_gates(gate(), gate("h", "xor", ("b", "a", "b"))), (1, 1))

    def test_how_many_corners(self):
        for many in range(6):
            netlist = with_gates(gate(delays=((1, 2),) * many))
            if 1 <= many <= 3:
                self.assert_good(netlist)
            else:
                self.assert_place(netlist, (1, 0))

    def test_delays(self):
        for pair in ((0, 0), (0, 1), (0, 999), (999, 999), (5, 5)):
            self.assert_good(with_gates(gate(delays=(pair,))))
        for pair in ((1, 0), (999, 998), (-1, 0), (0, 1000), (1000, 1000), (1000, 0), (-1, -1), (0, 10**5000)):
            self.assert_place(with_gates(gate(delays=((1, 1), pair))), (1, 0))
        for pair in ((1,), (1, 2, 3), (), (-(10**5000), 1)):
            self.assert_place(with_gates(gate(delays=(pair,))), (1, 0))

    def test_delays_of_other_kinds(self):
        for thing in no_tuples():
            self.assert_place(with_gates(gate(delays=thing)), (1, 0))
            self.assert_place(with_gates(gate(delays=(thing,))), (1, 0))
        for thing in no_wholes():
            self.assert_place(with_gates(gate(delays=((thing, 5),))), (1, 0))
            self.assert_place(with_gates(gate(delays=((0, thing),))), (1, 0))
        self.assert_place(with_gates(gate(delays=([1, 2],))), (1, 0))
        self.assert_place(with_gates(gate(delays=[(1, 2)])), (1, 0))

    def test_name_that_stood_ahead(self):
        self.assert_place(with_gates(gate("a")), (1, 0))
        self.assert_place(with_gates(gate("g"), gate("h"), gate("g"), None), (1, 2))


class RegisterTest(PlaceTest):
    def test_how_many(self):
        registers = tuple((name, "a", 0, 0, 0, 0) for name in ("p", "q", "r", "s", "t"))
        for many in range(5):
            self.assert_good((("a",), (), registers[:many], ()))
        self.assert_place((("a",), (), registers, ()), (2,))
        self.assert_place((("a",), (), (None,) * 5, ()), (2,))

    def test_no_tuple_of_six(self):
        for thing in no_tuples() + [(), ("r", "g", 0, 0, 0), ("r", "g", 0, 0, 0, 0, 0), deep()]:
            self.assert_place(with_registers(thing), (2, 0))

    def test_names(self):
        self.assert_good(with_registers(("r", "g", 0, 0, 0, 0)))
        for thing in no_names():
            self.assert_place(with_registers((thing, "g", 0, 0, 0, 0)), (2, 0))
            self.assert_place(with_registers(("r", thing, 0, 0, 0, 0)), (2, 0))

    def test_numbers(self):
        for place, (least, most) in enumerate(((0, 999), (0, 999), (-999, 0), (0, 999))):
            ahead = ("r", "g") + (0,) * place
            behind = (0,) * (3 - place)
            for number in (least, most):
                self.assert_good(with_registers(ahead + (number,) + behind))
            for thing in [least - 1, most + 1, 10**5000, -(10**5000)] + no_wholes():
                self.assert_place(with_registers(ahead + (thing,) + behind), (2, 0))

    def test_name_that_stood_ahead(self):
        registers = (("r", "g", 0, 0, 0, 0), ("g", "g", 0, 0, 0, 0))
        self.assert_place(with_registers(*registers), (2, 1))
        self.assert_place(with_registers(registers[0], registers[0]), (2, 1))
        self.assert_place(with_registers(("a", "g", 0, 0, 0, 0)), (2, 0))


class OutputTest(PlaceTest):
    def test_how_many(self):
        outputs = tuple((name, "a") for name in ("p", "q", "r", "s", "t"))
        for many in range(5):
            self.assert_good((("a",), (), (), outputs[:many]))
        self.assert_place((("a",), (), (), outputs), (3,))
        self.assert_place((("a",), (), (), (None,) * 5), (3,))

    def test_no_tuple_of_two(self):
        for thing in no_tuples() + [(), ("o",), ("o", "a", "a"), "oa", deep()]:
            self.assert_place((("a",), (), (), (("n", "a"), thing)), (3, 1))

    def test_names(self):
        for thing in no_names():
            self.assert_place((("a",), (), (), ((thing, "a"),)), (3, 0))
            self.assert_place((("a",), (), (), (("o", thing),)), (3, 0))

    def test_name_that_stood_ahead(self):
        for name in ("a", "g", "r", "o"):
            self.assert_place(GOOD[:3] + ((("o", "k"), (name, "a")),), (3, 1))


class BesideTest(PlaceTest):
    def test_starts(self):
        def starts(inputs, registers):
            names = ("a", "b", "c", "d", "e")[:inputs]
            return (names, (), tuple((name, name, 0, 0, 0, 0) for name in ("p", "q", "r", "s")[:registers]), ())

        for inputs in range(6):
            for registers in range(5):
                if 1 <= inputs + registers <= 6:
                    self.assert_good(starts(inputs, registers))
                else:
                    self.assert_place(starts(inputs, registers), (0,))

    def test_starts_are_told_ahead_of_pins(self):
        self.assert_place(((), (gate(),), (), ()), (0,))
        self.assert_place(((), (), (), (("o", "a"),)), (0,))

    def test_pin_that_is_none_there(self):
        self.assert_place(with_gates(gate("g"), gate("h", pins=("g", "x")), gate("k", pins=("g", "y"))), (1, 1))
        self.assert_place((("a",), (gate(pins=("a", "o")),), (), (("o", "a"),)), (1, 0))
        self.assert_good(with_gates(gate("g", pins=("a", "h")), gate("h")))
        self.assert_good(with_registers(("r", "g", 0, 0, 0, 0)))

    def test_another_number_of_corners(self):
        two = ((1, 2), (1, 2))
        self.assert_place(with_gates(gate("g"), gate("h"), gate("k", delays=two)), (1, 2))
        self.assert_place(with_gates(gate("g", delays=two), gate("h"), gate("k", delays=two)), (1, 1))
        self.assert_good(with_gates(gate("g", delays=two), gate("h", delays=two)))

    def test_pins_and_corners_in_one_go(self):
        two = ((1, 2), (1, 2))
        self.assert_place(with_gates(gate("g"), gate("h", delays=two), gate("k", pins=("x", "y"))), (1, 1))
        self.assert_place(with_gates(gate("g"), gate("h", pins=("x", "y")), gate("k", delays=two)), (1, 1))
        self.assert_place(with_gates(gate("g", pins=("x", "y")), gate("h", delays=two)), (1, 0))

    def test_feeds_itself(self):
        self.assert_place(with_gates(gate("g", pins=("g", "a"))), (1, 0))
        self.assert_place(with_gates(gate("g"), gate("h", "not", ("h",))), (1, 1))
        ring = (gate("g", pins=("a", "k")), gate("h", pins=("b", "g")), gate("k", "not", ("h",)))
        self.assert_place(with_gates(*ring), (1, 0))
        self.assert_place(with_gates(gate("e"), *ring[1:], ring[0]), (1, 1))

    def test_fed_by_one_that_feeds_itself(self):
        self.assert_place(
            with_gates(gate("f", "not", ("g",)), gate("e"), gate("g", "not", ("h",)), gate("h", "not", ("g",))), (1, 2)
        )

    def test_fourteen_in_a_ring(self):
        gates = chain(13)
        ring = gates + (gate("z", "xor", (gates[-1][0], "a")),)
        self.assert_good((("a",), ring, (), ()))
        ring = (gate(gates[0][0], "not", ("z",)),) + ring[1:]
        self.assert_place((("a",), ring, (), ()), (1, 0))

    def test_a_register_parts_a_ring(self):
        self.assert_good((("a",), (gate("g", "not", ("r",)),), (("r", "g", 0, 0, 0, 0),), ()))

    def test_stray_pins_are_told_ahead_of_rings(self):
        self.assert_place(with_gates(gate("g", "not", ("g",)), gate("h", "not", ("x",))), (1, 1))
        self.assert_place(with_gates(gate("g", "not", ("g",)), gate("h", delays=((1, 2), (1, 2)))), (1, 1))

    def test_data_that_is_none_there(self):
        for data in ("x", "o"):
            registers = (("r", "g", 0, 0, 0, 0), ("s", data, 0, 0, 0, 0))
            self.assert_place((("a",), (gate(pins=("a", "r")),), registers, (("o", "a"),)), (2, 1))
            outputs = (("n", "a"), ("o", data), ("p", "x"))
            self.assert_place((("a",), (), (), outputs), (3, 1))
        for data in ("a", "r", "g"):
            self.assert_good((("a",), (gate(pins=("a", "r")),), (("r", data, 0, 0, 0, 0),), (("o", data),)))

    def test_rings_registers_outputs_in_turn(self):
        ring = (gate("g", "not", ("g",)),)
        fine = (gate("g", "not", ("a",)),)
        registers = (("r", "x", 0, 0, 0, 0),)
        outputs = (("o", "x"),)
        self.assert_place((("a",), ring, registers, outputs), (1, 0))
        self.assert_place((("a",), fine, registers, outputs), (2, 0))
        self.assert_place((("a",), fine, (), outputs), (3, 0))

    def test_how_many_paths(self):
        self.assert_good(SIXTY)
        self.assert_place(SIXTY_ONE, (1,))
        self.assertEqual((many_paths(SIXTY), many_paths(SIXTY_ONE)), (60, 61))

    def test_paths_are_told_last(self):
        inputs, gates, registers, outputs = SIXTY_ONE
        self.assert_place((inputs, gates, (("r", "x", 0, 0, 0, 0),), outputs), (2, 0))
        self.assert_place((inputs, gates, registers, outputs[:3] + (("p", "x"),)), (3, 3))

    def test_ways_that_reach_no_end_are_no_paths(self):
        names = ["a", "b", "c"] + ["g" + letter for letter in "abcdefghijklmn"]
        gates = tuple(gate(names[k], "xor", tuple(names[k - 3:k])) for k in range(3, 17))
        self.assert_good((("a", "b", "c"), gates, (), ()))
        self.assert_place((("a", "b", "c"), gates, (), (("o", names[-1]),)), (1,))


if __name__ == "__main__":
    unittest.main()
