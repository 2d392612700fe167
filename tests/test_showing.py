import unittest

from gateslack.showing import LINE, cases_text, clock_text, edit_text, edits_text, filling_text, fraction_text
from gateslack.showing import netlist_text, path_text, ring_text
from samples import D, EDITS, EDIT_LINES, GOOD, LINES


class NetlistTextTest(unittest.TestCase):
    def test_lines_stand_in_the_netlists_order(self):
        self.assertEqual(netlist_text(GOOD), "\n".join(LINES))

    def test_the_sign_stands_between_two_lines_alone(self):
        self.assertEqual(LINE, "\n")
        self.assertEqual(netlist_text(GOOD, sign="; "), "; ".join(LINES))
        self.assertEqual(netlist_text(GOOD, sign=""), "".join(LINES))
        self.assertEqual(netlist_text(GOOD, sign=LINE), netlist_text(GOOD))

    def test_one_line(self):
        self.assertEqual(netlist_text((("abcdefgh",), (), (), ())), "input abcdefgh")
        netlist = ((), (), (("r", "r", 999, 999, -999, 999),), ())
        self.assertEqual(netlist_text(netlist), "register r r 999 999 -999 999")

    def test_each_kind_of_gate(self):
        for kind, pins, words in (
            ("not", ("a",), "not a"),
            ("and", ("a", "b"), "and a b"),
            ("nand", ("b", "a"), "nand b a"),
            ("or", ("a", "b", "c"), "or a b c"),
            ("nor", ("c", "a", "b"), "nor c a b"),
            ("xor", ("b", "c"), "xor b c"),
        ):
            netlist = (("a", "b", "c"), (("g", kind, pins, D),), (), ())
            self.assertEqual(netlist_text(netlist, sign=";"), f"input a;input b;input c;gate g {words} / 1 2")

    def test_three_corners(self):
        netlist = (("a",), (("g", "not", ("a",), ((0, 0), (0, 999), (999, 999))),), (), ())
        self.assertEqual(netlist_text(netlist), "input a\ngate g not a / 0 0 / 0 999 / 999 999")

    def test_by_its_name(self):
        self.assertEqual(netlist_text(sign="+", netlist=(("a", "b"), (), (), ())), "input a+input b")


class EditTextTest(unittest.TestCase):
    def test_each_edit(self):
        for edit, line in zip(EDITS, EDIT_LINES):
            self.assertEqual(edit_text(edit), line)
            self.assertEqual(edit_text(edit=edit), line)

    def test_other_numbers_of_things(self):
        self.assertEqual(edit_text(("gate", "gate", "not", ("not",))), "gate gate not not")
        self.assertEqual(edit_text(("gate", "g", "nor", ("a", "b", "c"))), "gate g nor a b c")
        self.assertEqual(edit_text(("delays", "delays", D)), "delays delays / 1 2")
        self.assertEqual(edit_text(("delays", "g", ((0, 1), (2, 3), (4, 5)))), "delays g / 0 1 / 2 3 / 4 5")

    def test_edits_of_a_tuple_or_a_list(self):
        for edits in (EDITS, list(EDITS)):
            self.assertEqual(edits_text(edits), "\n".join(EDIT_LINES))
            self.assertEqual(edits_text(edits, sign="; "), "; ".join(EDIT_LINES))
        self.assertEqual(edits_text([EDITS[5]], sign="; "), "period 100")
        self.assertEqual(edits_text(sign=", ", edits=EDITS[4:]), "skew r -4, period 100")

    def test_no_edits(self):
        for none in ((), []):
            self.assertEqual(edits_text(none), "")
            self.assertEqual(edits_text(none, sign="; "), "")


class LineTest(unittest.TestCase):
    def test_clocks(self):
        self.assertEqual(clock_text((100, (3, -4))), "clock 100 3 -4")
        self.assertEqual(clock_text((1, ())), "clock 1")
        self.assertEqual(clock_text(clock=(99999, (0, -9999, 9999, 1))), "clock 99999 0 -9999 9999 1")

    def test_paths(self):
        self.assertEqual(path_text(("a", "g", "r")), "a g r")
        self.assertEqual(path_text(path=("r", "r")), "r r")

    def test_fillings(self):
        self.assertEqual(filling_text((0, 1, None)), "0 1 x")
        self.assertEqual(filling_text((0,)), "0")
        self.assertEqual(filling_text(filling=(None,) * 6), "x x x x x x")

    def test_cases(self):
        cut = ("cut", "g", "b")
        other = ("cut", "h", "c")
        self.assertEqual(cases_text(cut), "cut g b")
        self.assertEqual(cases_text(("ask", "a", cut, other)), "ask a cut g b cut h c")
        cases = ("ask", "a", ("ask", "b", cut, other), cut)
        self.assertEqual(cases_text(cases=cases), "ask a ask b cut g b cut h c cut g b")
        self.assertEqual(cases_text(("ask", "a", cut, ("ask", "b", other, cut))), "ask a cut g b ask b cut h c cut g b")
        self.assertEqual(cases_text(("ask", "cut", ("cut", "ask", "cut"), cut)), "ask cut cut ask cut cut g b")

    def test_cases_six_deep(self):
        cases = ("cut", "g", "b")
        text = "cut g b"
        for start in "abcdef":
            cases = ("ask", start, cases, cases)
            text = f"ask {start} {text} {text}"
        self.assertEqual(cases_text(cases), text)

    def test_rings(self):
        self.assertEqual(ring_text((("late", ("a", "g", "r"), 0), ("high", "r"))), "late 0 a g r / high r")
        self.assertEqual(ring_text((("early", ("r", "r"), 2),)), "early 2 r r")
        ring = (("low", "r"), ("early", ("r", "g", "s"), 1), ("late", ("s", "h", "k", "o"), 0), ("high", "high"))
        self.assertEqual(ring_text(ring=ring), "low r / early 1 r g s / late 0 s h k o / high high")

    def test_fractions(self):
        for fraction, text in (
            ((3, 1), "3"),
            ((-7, 2), "-7/2"),
            ((0, 1), "0"),
            ((-1, 1), "-1"),
            ((1, 2), "1/2"),
            ((99999, 60), "99999/60"),
        ):
            self.assertEqual(fraction_text(fraction), text)
            self.assertEqual(fraction_text(fraction=fraction), text)


if __name__ == "__main__":
    unittest.main()
