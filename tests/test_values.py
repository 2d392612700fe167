import itertools
import unittest

from gateslack.errors import BadFilling, NoSignal
from gateslack.netlist import MOST_STARTS, order_of, starts_of
from gateslack.values import decided_of, filling_for, fillings, hangs_on, need_filling, table_of, unlike_by
from bywords import decided_by_words, value_by_words
from samples import BACKWARD, D, Equal, GOOD, NO_GATES, SIXTY, deep, no_names, no_tuples, no_wholes, random_netlist

# The values of each KIND by as many FILLINGS as there are, as these rise.
TABLES = {
    ("not", 1): "10",
    ("and", 2): "0001",
    ("nand", 2): "1110",
    ("or", 2): "0111",
    ("nor", 2): "1000",
    ("xor", 2): "0110",
    ("and", 3): "00000001",
    ("nand", 3): "11111110",
    ("or", 3): "01111111",
    ("nor", 3): "10000000",
    ("xor", 3): "01101001",
}


def one_gate(kind, many):
    names = ("a", "b", "c")[:many]
    return (names, (("g", kind, names, D),), (), (("o", "g"),))


def signals(netlist):
    return starts_of(netlist) + order_of(netlist)


def many_netlists():
    return [GOOD, BACKWARD, SIXTY, NO_GATES] + [random_netlist(seed) for seed in range(60)]


def no_signals(netlist):
    outputs = [row[0] for row in netlist[3]]
    return no_names() + ["zzzzzzzz", "and"] + outputs


def no_values():
    return [thing for thing in no_wholes() if thing is not None] + [2, -1, 10**5000, -(10**5000), "x"]


class RefusingTest(unittest.TestCase):
    def need_no_filling(self, ask):
        with self.assertRaises(BadFilling) as refused:
            ask()
        self.assertIs(type(refused.exception), BadFilling)

    def need_no_signal(self, name, ask):
        with self.assertRaises(NoSignal) as refused:
            ask()
        self.assertIs(type(refused.exception), NoSignal)
        self.assertIs(refused.exception.name, name)


class FillingTest(RefusingTest):
    def test_all_fillings(self):
        for netlist in many_netlists():
            many = len(starts_of(netlist))
            self.assertEqual(fillings(netlist), list(itertools.product((0, 1), repeat=many)))
            self.assertEqual(fillings(netlist=netlist), sorted(fillings(netlist)))

    def test_one_to_six_starts(self):
        self.assertEqual(fillings((("a",), (), (), ())), [(0,), (1,)])
        self.assertEqual(fillings(((), (), (("r", "r", 0, 0, 0, 0),), ())), [(0,), (1,)])
        self.assertEqual(fillings(NO_GATES)[:3], [(0, 0, 0), (0, 0, 1), (0, 1, 0)])
        six = (("a", "b", "c", "d", "e"), (), (("r", "a", 0, 0, 0, 0),), ())
        self.assertEqual(len(starts_of(six)), MOST_STARTS)
        self.assertEqual((len(fillings(six)), fillings(six)[0], fillings(six)[-1]), (64, (0,) * 6, (1,) * 6))

    def test_fillings_are_told_by_none(self):
        for filling in fillings(GOOD):
            self.assertIsNone(need_filling(GOOD, filling))
            self.assertIsNone(need_filling(GOOD, filling, partial=True))
            self.assertIsNone(need_filling(thing=filling, netlist=GOOD, partial=False))

    def test_partial_ones_by_true_alone(self):
        for filling in itertools.product((0, 1, None), repeat=4):
            self.assertIsNone(need_filling(GOOD, filling, partial=True))
            if None in filling:
                self.need_no_filling(lambda: need_filling(GOOD, filling))
                self.need_no_filling(lambda: need_filling(GOOD, filling, partial=False))

    def test_what_is_no_filling(self):
        others = no_tuples() + [(0,) * many for many in (0, 1, 3, 5)] + [(None,) * 3, (None,) * 5]
        others += [[0, 0, 0, 0], "0000", b"0000"]
        for value in no_values():
            others += [(value, 0, 0, 0), (0, value, 0, 0), (1, 0, 1, value)]
        for thing in others + [deep(), ((0, 0, 0, 0),), (Equal(),) * 4]:
            for partial in (False, True):
                self.need_no_filling(lambda: need_filling(GOOD, thing, partial=partial))
            self.need_no_filling(lambda: decided_of(GOOD, thing))
            if thing is not None:
                self.need_no_filling(lambda: filling_for(GOOD, (), filling=thing))

    def test_partial_is_handed_in_by_its_name_alone(self):
        with self.assertRaises(TypeError):
            need_filling(GOOD, (0, 0, 0, 0), True)


class DecidedTest(RefusingTest):
    def test_each_kind(self):
        for (kind, many), table in TABLES.items():
            netlist = one_gate(kind, many)
            for filling, value in zip(itertools.product((0, 1), repeat=many), table):
                self.assertEqual(decided_of(netlist, filling)["g"], int(value), (kind, filling))

    def test_what_one_pin_decides(self):
        for kind, filling, value in (
            ("not", (None,), None),
            ("and", (0, None), 0),
            ("and", (None, 0), 0),
            ("and", (1, None), None),
            ("and", (None, 1, 0), 0),
            ("and", (1, 1, None), None),
            ("nand", (None, 0), 1),
            ("nand", (None, 1), None),
            ("nand", (1, None, 0), 1),
            ("or", (1, None), 1),
            ("or", (0, None), None),
            ("or", (None, None, 1), 1),
            ("nor", (None, 1), 0),
            ("nor", (0, None), None),
            ("nor", (0, 0, None), None),
            ("xor", (None, 0), None),
            ("xor", (1, None), None),
            ("xor", (None, 0, 1), None),
        ):
            self.assertEqual(decided_of(one_gate(kind, len(filling)), filling)["g"], value, (kind, filling))

    def test_a_gate_is_decided_by_what_its_pins_are_decided_alone(self):
        # g is 0 by each FILLING, but neither of its pins is decided while a isn't.
        netlist = (("a",), (("h", "not", ("a",), D), ("g", "and", ("a", "h"), D), ("k", "xor", ("g", "h"), D)), (), ())
        self.assertEqual(decided_of(netlist, (None,)), {"a": None, "h": None, "g": None, "k": None})
        self.assertEqual(decided_of(netlist, (0,)), {"a": 0, "h": 1, "g": 0, "k": 1})
        self.assertEqual(table_of(netlist, "g"), "00")

    def test_each_partial_filling(self):
        for netlist in many_netlists():
            starts = starts_of(netlist)
            for filling in itertools.product((0, 1, None), repeat=len(starts)):
                decided = decided_of(netlist, filling)
                told = dict(zip(starts, filling))
                self.assertEqual(list(decided), list(starts + order_of(netlist)))
                self.assertEqual(decided, {name: decided_by_words(netlist, name, told) for name in decided})

    def test_starts_stand_ahead_of_gates_in_order(self):
        self.assertEqual(list(decided_of(GOOD, (0, 1, 0, 1))), ["a", "b", "r", "s", "g", "h", "k"])
        decided = decided_of(filling=(0,), netlist=BACKWARD)
        self.assertEqual(list(decided.items()), [("a", 0), ("y", 1), ("x", 0), ("z", 1)])
        self.assertEqual(decided_of(NO_GATES, (1, None, 0)), {"a": 1, "b": None, "r": 0})

    def test_values_are_plain_numbers(self):
        for value in decided_of(GOOD, (0, 1, 0, 1)).values():
            self.assertIs(type(value), int)


class TableTest(RefusingTest):
    def test_each_kind(self):
        for (kind, many), table in TABLES.items():
            self.assertEqual(table_of(one_gate(kind, many), "g"), table)

    def test_starts(self):
        self.assertEqual([table_of(NO_GATES, name) for name in ("a", "b", "r")], ["00001111", "00110011", "01010101"])

    def test_by_the_words(self):
        for netlist in many_netlists():
            starts = starts_of(netlist)
            for name in signals(netlist):
                rows = [dict(zip(starts, filling)) for filling in fillings(netlist)]
                values = [value_by_words(netlist, name, row) for row in rows]
                self.assertEqual(table_of(netlist=netlist, name=name), "".join(map(str, values)))

    def test_what_is_no_signal(self):
        for netlist in (GOOD, NO_GATES):
            for name in no_signals(netlist):
                self.need_no_signal(name, lambda: table_of(netlist, name))
                self.need_no_signal(name, lambda: hangs_on(netlist, name))
                self.need_no_signal(name, lambda: unlike_by(netlist, name, "a"))
                self.need_no_signal(name, lambda: unlike_by(netlist, "a", name))
                self.need_no_signal(name, lambda: unlike_by(netlist, name, "o"))


class HangsTest(unittest.TestCase):
    def test_a_start_hangs_on_itself(self):
        self.assertEqual(hangs_on(NO_GATES, "a"), [("a", (0, 0, 0))])
        self.assertEqual(hangs_on(name="r", netlist=NO_GATES), [("r", (0, 0, 0))])

    def test_each_kind(self):
        for kind, shown in (
            ("and", [("a", (0, 1, 1)), ("b", (1, 0, 1)), ("c", (1, 1, 0))]),
            ("nor", [("a", (0, 0, 0)), ("b", (0, 0, 0)), ("c", (0, 0, 0))]),
            ("xor", [("a", (0, 0, 0)), ("b", (0, 0, 0)), ("c", (0, 0, 0))]),
        ):
            self.assertEqual(hangs_on(one_gate(kind, 3), "g"), shown)

    def test_what_does_not_hang(self):
        netlist = (
            ("a", "b"),
            (
                ("h", "not", ("a",), D),
                ("g", "and", ("a", "h"), D),
                ("k", "or", ("b", "g"), D),
                ("m", "xor", ("a", "b"), D),
                ("n", "xor", ("m", "a"), D),
            ),
            (),
            (),
        )
        self.assertEqual(hangs_on(netlist, "g"), [])
        self.assertEqual(hangs_on(netlist, "k"), [("b", (0, 0))])
        self.assertEqual(hangs_on(netlist, "n"), [("b", (0, 0))])

    def test_by_the_words(self):
        for netlist in many_netlists():
            starts = starts_of(netlist)
            values = {filling: decided_of(netlist, filling) for filling in fillings(netlist)}
            for name in signals(netlist):
                told = []
                for at, start in enumerate(starts):
                    shown = [
                        one
                        for one, other in itertools.product(values, repeat=2)
                        if one[at] == 0
                        and [number for number in range(len(starts)) if one[number] != other[number]] == [at]
                        and values[one][name] != values[other][name]
                    ]
                    told += [(start, min(shown))] if shown else []
                self.assertEqual(hangs_on(netlist, name), told)


class UnlikeTest(unittest.TestCase):
    def test_alike(self):
        netlist = (("a",), (("g", "not", ("a",), D), ("h", "not", ("g",), D), ("k", "and", ("a", "h"), D)), (), ())
        self.assertIsNone(unlike_by(netlist, "a", "h"))
        self.assertIsNone(unlike_by(netlist, "k", "h"))
        self.assertIsNone(unlike_by(netlist, "g", "g"))
        self.assertEqual(unlike_by(netlist, "a", "g"), (0,))

    def test_the_least_one(self):
        netlist = one_gate("and", 3)
        self.assertEqual(unlike_by(netlist, "g", "a"), (1, 0, 0))
        self.assertEqual(unlike_by(netlist, "b", "g"), (0, 1, 0))
        self.assertEqual(unlike_by(other="c", one="g", netlist=netlist), (0, 0, 1))

    def test_by_the_words(self):
        for netlist in many_netlists():
            tables = {name: table_of(netlist, name) for name in signals(netlist)}
            for one, other in itertools.product(tables, repeat=2):
                unlike = [row for at, row in enumerate(fillings(netlist)) if tables[one][at] != tables[other][at]]
                self.assertEqual(unlike_by(netlist, one, other), unlike[0] if unlike else None)


class FillingForTest(RefusingTest):
    def test_no_wants(self):
        self.assertEqual(filling_for(GOOD, ()), (0, 0, 0, 0))
        self.assertEqual(filling_for(GOOD, (), filling=None), (0, 0, 0, 0))
        self.assertEqual(filling_for(GOOD, (), filling=(None, 1, None, 1)), (0, 1, 0, 1))

    def test_wants(self):
        self.assertEqual(filling_for(GOOD, (("g", 1),)), (1, 0, 1, 0))
        self.assertEqual(filling_for(GOOD, (("g", 1), ("k", 0))), (1, 1, 1, 0))
        self.assertEqual(filling_for(wants=(("b", 1), ("s", 1)), netlist=GOOD), (0, 1, 0, 1))
        self.assertIsNone(filling_for(GOOD, (("g", 1), ("a", 0))))
        self.assertIsNone(filling_for(GOOD, (("g", 1),), filling=(0, None, None, None)))
        self.assertEqual(filling_for(GOOD, (("g", 0),), filling=(None, None, 1, 1)), (0, 0, 1, 1))

    def test_a_name_that_stands_twice(self):
        self.assertEqual(filling_for(GOOD, (("h", 0), ("h", 0))), (1, 0, 1, 0))
        self.assertEqual(filling_for(GOOD, (("h", 0),) * 300), (1, 0, 1, 0))
        self.assertIsNone(filling_for(GOOD, (("h", 0), ("h", 1))))
        self.assertIsNone(filling_for(GOOD, (("a", 1), ("b", 0), ("a", 0))))

    def test_by_the_words(self):
        for netlist in many_netlists():
            starts = starts_of(netlist)
            names = signals(netlist)
            for at, one in enumerate(names):
                other = names[at // 2]
                for wants in itertools.product((0, 1), repeat=2):
                    wants = tuple(zip((one, other), wants))
                    for told in ((None,) * len(starts), (None, 0, 1, None, 1, 0)[: len(starts)]):
                        good = [
                            row
                            for row in fillings(netlist)
                            if all(decided_of(netlist, row)[name] == value for name, value in wants)
                            and all(value in (None, row[number]) for number, value in enumerate(told))
                        ]
                        self.assertEqual(filling_for(netlist, wants, filling=told), good[0] if good else None)

    def test_wants_that_are_not_so(self):
        others = no_tuples() + [{"a": 1}, [("a", 1)], {("a", 1)}, "a1", iter(())]
        pairs = no_tuples() + [(), ("a",), ("a", 1, 0), (1, "a"), ["a", 1], "a1"]
        pairs += [(name, 1) for name in no_signals(GOOD)] + [("a", value) for value in no_values() + [None]]
        others += [(pair,) for pair in pairs] + [(("a", 1), pair) for pair in pairs]
        others += [("a", 1), deep(), ((("a", 1),),)]
        for wants in others:
            self.need_no_filling(lambda: filling_for(GOOD, wants))
            self.need_no_filling(lambda: filling_for(GOOD, wants, filling=(0, 0, 0, 0)))
        self.need_no_filling(lambda: filling_for(GOOD, (("o", 1),)))
        self.need_no_filling(lambda: filling_for(GOOD, None, filling=()))

    def test_a_filling_is_handed_in_by_its_name_alone(self):
        with self.assertRaises(TypeError):
            filling_for(GOOD, (), (0, 0, 0, 0))


if __name__ == "__main__":
    unittest.main()
