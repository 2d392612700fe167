import random
import unittest

from gateslack.errors import BadNetlist, BadText
from gateslack.reading import FIRST, cases_in, clock_in, edit_in, edits_in, filling_in, netlist_in, path_in, ring_in
from gateslack.showing import cases_text, clock_text, edits_text, filling_text, netlist_text, path_text, ring_text
from samples import BACKWARD, D, EDITS, EDIT_LINES, GOOD, LINES, MANY_WAYS, SIXTY, no_texts, random_netlist

READERS = (netlist_in, clock_in, edit_in, edits_in, path_in, filling_in, cases_in, ring_in)
ONE_LINE_READERS = tuple(read for read in READERS if read not in (netlist_in, edits_in))

CUT = ("cut", "g", "b")
CASES = ("ask", "a", ("ask", "b", CUT, ("cut", "h", "c")), CUT)
RING = (("late", ("a", "g", "r"), 0), ("high", "r"), ("low", "r"), ("early", ("r", "r"), 2))

# What reads a line, the line, what it says, and after how many words, too, it would be whole.
GOOD_LINES = (
    (clock_in, "clock 100 3 -4", (100, (3, -4)), (2, 3)),
    (clock_in, "clock 99999 9999 -9999 0 7", (99999, (9999, -9999, 0, 7)), (2, 3, 4, 5)),
    (clock_in, "clock 1", (1, ()), ()),
    (edit_in, EDIT_LINES[0], EDITS[0], (5,)),
    (edit_in, "delays g / 0 0 / 999 999 / 0 999", ("delays", "g", ((0, 0), (999, 999), (0, 999))), (5, 8)),
    (edit_in, EDIT_LINES[1], EDITS[1], ()),
    (edit_in, "gate g xor a b c", ("gate", "g", "xor", ("a", "b", "c")), (5,)),
    (edit_in, "gate g not a", ("gate", "g", "not", ("a",)), ()),
    (edit_in, EDIT_LINES[2], EDITS[2], ()),
    (edit_in, EDIT_LINES[3], EDITS[3], ()),
    (edit_in, "checks r 999 999 -999 999", ("checks", "r", 999, 999, -999, 999), ()),
    (edit_in, EDIT_LINES[4], EDITS[4], ()),
    (edit_in, EDIT_LINES[5], EDITS[5], ()),
    (path_in, "a g r", ("a", "g", "r"), (2,)),
    (path_in, "r r", ("r", "r"), ()),
    (filling_in, "0 1 x", (0, 1, None), (1, 2)),
    (filling_in, "x x x 1 0 x", (None, None, None, 1, 0, None), (1, 2, 3, 4, 5)),
    (cases_in, "cut g b", CUT, ()),
    (cases_in, "ask a ask b cut g b cut h c cut g b", CASES, ()),
    (ring_in, "late 0 a g r / high r / low r / early 2 r r", RING, (4, 5, 8, 11)),
    (ring_in, "low r", (("low", "r"),), ()),
)

# Behind each of these there can be no more.
FULL_LINES = (
    "clock 99999 9999 -9999 0 7",
    "delays g / 0 0 / 999 999 / 0 999",
    "gate g xor a b c",
    "gate g not a",
    "data r g",
    "checks r 3 1 -20 30",
    "skew r -4",
    "period 100",
    "x x x 1 0 x",
    "cut g b",
    "ask a ask b cut g b cut h c cut g b",
)
WRONG_WORDS = ("?", "A", "1a", "a1", "abcdefghi", "100000", "-10000", "-0", "00", "01", "+1", "1.5", "a/b", "//")
MORE_WORDS = ("0", "5", "-5", "a", "/", "x", "cut", "ask", "clock", "low", "?")


class ReadingTest(unittest.TestCase):
    def need_refused(self, read, text, line, word, **named):
        with self.assertRaises(BadText) as refused:
            read(text, **named)
        told = (refused.exception.line, refused.exception.word)
        self.assertEqual((type(refused.exception), told), (BadText, (line, word)), (read.__name__, text[:80]))


class WordTest(ReadingTest):
    def test_good_lines(self):
        for read, text, thing, _ in GOOD_LINES:
            self.assertEqual(read(text), thing, text)
            self.assertEqual(read(text=text, first=5), thing)

    def test_each_word_can_be_wrong(self):
        for read, text, _, _ in GOOD_LINES:
            words = text.split()
            for at in range(len(words)):
                for wrong in WRONG_WORDS:
                    self.need_refused(read, " ".join(words[:at] + [wrong] + words[at + 1 :]), 1, at + 1)

    def test_each_word_can_lack(self):
        for read, text, _, whole in GOOD_LINES:
            words = text.split()
            for many in range(1, len(words)):
                cut = " ".join(words[:many])
                if many in whole:
                    read(cut)
                else:
                    self.need_refused(read, cut, 1, many + 1)

    def test_a_word_too_many(self):
        for text in FULL_LINES:
            read = [row[0] for row in GOOD_LINES if row[1] == text][0]
            for more in MORE_WORDS:
                self.need_refused(read, f"{text} {more}", 1, len(text.split()) + 1)
                self.need_refused(read, f"{text} {more} {more}", 1, len(text.split()) + 1)

    def test_a_word_that_is_none_of_what_can_go_on(self):
        for read, text, mores in (
            (clock_in, "clock 1", ("a", "/", "x", "10000", "-10000")),
            (edit_in, "delays g / 3 5", ("a", "4", "x")),
            (edit_in, "gate g and a b", ("/", "5", "x1")),
            (path_in, "a b", ("/", "5", "/ a")),
            (filling_in, "0", ("2", "a", "/", "-1", "00", "xx")),
            (ring_in, "late 0 a b", ("5", "?")),
            (ring_in, "high r", ("s", "5", "high", "late 0 a b")),
        ):
            for more in mores:
                self.need_refused(read, f"{text} {more}", 1, len(text.split()) + 1)

    def test_the_first_wrong_word_is_told(self):
        self.need_refused(clock_in, "clock 0 x", 1, 2)
        self.need_refused(edit_in, "gate G maybe 5", 1, 2)
        self.need_refused(edit_in, "gate g maybe 5", 1, 3)
        self.need_refused(ring_in, "late 3 A / low", 1, 2)
        self.need_refused(ring_in, "late 2 a / low", 1, 4)
        self.need_refused(cases_in, "ask A cut g", 1, 2)


class BoundTest(ReadingTest):
    def need_bounds(self, read, line, word, least, most):
        """Of a line with {} at that word."""
        for number in (least, most):
            read(line.format(number))
        for text in (least - 1, most + 1, f"0{most}", f"+{most}", f"{most}.", "-", "-0", "--1", "x", "1" + "0" * 500):
            self.need_refused(read, line.format(text), 1, word)

    def test_clocks(self):
        self.need_bounds(clock_in, "clock {}", 2, 1, 99999)
        self.need_bounds(clock_in, "clock {} 1", 2, 1, 99999)
        for at in range(4):
            skews = ["0"] * 4
            skews[at] = "{}"
            self.need_bounds(clock_in, "clock 5 " + " ".join(skews), 3 + at, -9999, 9999)

    def test_delays(self):
        self.need_bounds(edit_in, "delays g / {} 999", 4, 0, 999)
        self.need_bounds(edit_in, "delays g / 0 {}", 5, 0, 999)
        self.need_bounds(edit_in, "delays g / 7 {}", 5, 7, 999)
        self.need_bounds(edit_in, "delays g / 0 0 / 0 0 / {} 999", 10, 0, 999)
        self.need_bounds(edit_in, "delays g / 0 0 / 0 0 / 998 {}", 11, 998, 999)

    def test_checks(self):
        self.need_bounds(edit_in, "checks r {} 0 0 0", 3, 0, 999)
        self.need_bounds(edit_in, "checks r 0 {} 0 0", 4, 0, 999)
        self.need_bounds(edit_in, "checks r 0 0 {} 0", 5, -999, 0)
        self.need_bounds(edit_in, "checks r 0 0 0 {}", 6, 0, 999)

    def test_skews_and_periods(self):
        self.need_bounds(edit_in, "skew r {}", 3, -9999, 9999)
        self.need_bounds(edit_in, "period {}", 2, 1, 99999)

    def test_corners(self):
        self.need_bounds(ring_in, "late {} a b", 2, 0, 2)
        self.need_bounds(ring_in, "low r / early {} a b", 5, 0, 2)

    def test_the_lines_of_netlists(self):
        def behind_others(text):
            return netlist_in(f"input a\ngate h not a / 1 2\n{text}")

        for line, word, least, most in (
            ("gate g not a / {} 999", 6, 0, 999),
            ("gate g not a / 5 {}", 7, 5, 999),
            ("register r a {} 0 0 0", 4, 0, 999),
            ("register r a 0 {} 0 0", 5, 0, 999),
            ("register r a 0 0 {} 0", 6, -999, 0),
            ("register r a 0 0 0 {}", 7, 0, 999),
        ):
            for number in (least, most):
                behind_others(line.format(number))
            for number in (least - 1, most + 1, "-0", "a"):
                self.need_refused(behind_others, line.format(number), 3, word)

    def test_names(self):
        longest = "z" * 8
        self.assertEqual(path_in(f"{longest} a"), (longest, "a"))
        for name in ("z" * 9, "Z", "a1", "a-b", "1", "_", "a_b", ".", "/", "'", "a'b"):
            self.need_refused(path_in, f"a {name}", 1, 2)
            self.need_refused(path_in, f"a b {name}", 1, 3)
            self.need_refused(edit_in, f"data {name} a", 1, 2)
            self.need_refused(edit_in, f"gate g not {name}", 1, 4)

    def test_pins(self):
        for kind in ("and", "nand", "or", "nor", "xor"):
            self.assertEqual(edit_in(f"gate g {kind} a b"), ("gate", "g", kind, ("a", "b")))
            self.assertEqual(edit_in(f"gate g {kind} a b c"), ("gate", "g", kind, ("a", "b", "c")))
            self.need_refused(edit_in, f"gate g {kind} a", 1, 5)
            self.need_refused(edit_in, f"gate g {kind} a b c d", 1, 7)
        self.need_refused(edit_in, "gate g not", 1, 4)
        self.need_refused(edit_in, "gate g not a b", 1, 5)
        for kind in ("", "NOT", "nots", "buf", "g", "xnor", "1", "a"):
            self.need_refused(edit_in, f"gate g {kind} ? ?", 1, 3)

    def test_cases_six_within_one_another(self):
        def nested(many):
            text = thing = None
            for _ in range(many + 1):
                text = f"ask a {text} {text}" if text else "cut g b"
                thing = ("ask", "a", thing, thing) if thing else ("cut", "g", "b")
            return text, thing

        for many in range(7):
            text, thing = nested(many)
            self.assertEqual(cases_in(text), thing)
        self.need_refused(cases_in, nested(7)[0], 1, 13)
        self.need_refused(cases_in, "ask a " * 3000, 1, 13)
        self.need_refused(cases_in, "ask a " * 6 + "cut g b ask a", 1, 16)
        # Of two that stand beside one another neither is within the other.
        self.need_refused(cases_in, f"ask a {nested(5)[0]} {nested(6)[0]}", 1, 2 + len(nested(5)[0].split()) + 11)
        text = "cut g b"
        for many in range(7):
            self.assertEqual(cases_text(cases_in(text)), text)
            text = f"ask b cut g b {text}"
        self.need_refused(cases_in, text, 1, 31)


class LineTest(ReadingTest):
    def test_any_number_of_blanks(self):
        for read, text, thing, _ in GOOD_LINES:
            words = text.split()
            self.assertEqual(read("   " + "     ".join(words) + "  "), thing)
            self.need_refused(read, "   " + "     ".join(words[:-1] + ["?"]) + "  ", 1, len(words))

    def test_lines_without_words_mean_nothing(self):
        for read, text, thing, _ in GOOD_LINES:
            for around in ("\n{}", "{}\n", "\n   \n{}\n\n  \n", "      \n{}\n"):
                self.assertEqual(read(around.format(text)), edits_in(text) if read is edits_in else thing)

    def test_a_line_end_parts_the_words_of_two_lines(self):
        for read, text, _, whole in GOOD_LINES:
            words = text.split()
            for many in range(1, len(words)):
                parted = " ".join(words[:many]) + "\n" + " ".join(words[many:])
                if many in whole:
                    self.need_refused(read, parted, 2, 1)
                else:
                    self.need_refused(read, parted, 1, many + 1)

    def test_without_a_line(self):
        for read in ONE_LINE_READERS:
            for text, line in (("", 2), ("    ", 2), ("\n", 3), ("  \n ", 3), ("\n\n", 4), ("\n \n\n", 5)):
                self.need_refused(read, text, line, 1)
                self.need_refused(read, text, line + 6, 1, first=7)

    def test_a_second_line(self):
        for read, text, _, _ in GOOD_LINES:
            for more in (text, "?", "a", "5", "/"):
                self.need_refused(read, f"{text}\n{more}", 2, 1)
                self.need_refused(read, f"\n{text}\n  \n\n   {more} {more}\n?", 5, 1)
                self.need_refused(read, f"{text}\n{more}", 10, 1, first=9)

    def test_the_first_line_is_told_ahead_of_a_second_one(self):
        self.need_refused(clock_in, "clock 0\nclock 1", 1, 2)
        self.need_refused(clock_in, "clock\nclock 1", 1, 2)
        self.need_refused(filling_in, "0 1 2\n?", 1, 3)

    def test_lines_are_numbered_from_first(self):
        self.assertEqual(FIRST, 1)
        for first in (0, 1, 2, 9999):
            self.need_refused(clock_in, "clock x", first, 2, first=first)
            self.need_refused(clock_in, "", first + 1, 1, first=first)
            self.need_refused(edits_in, "\nperiod 5\n\nperiod", first + 3, 2, first=first)
            self.need_refused(netlist_in, "input a\n\ninput A", first + 2, 2, first=first)
        for read in READERS:
            self.need_refused(read, "\n?", 2, 1)

    def test_first_is_handed_in_by_its_name_alone(self):
        for read in READERS:
            with self.assertRaises(TypeError):
                read("", 1)

    def test_no_text(self):
        for read in READERS:
            for thing in no_texts():
                with self.assertRaises(BadText) as refused:
                    read(thing)
                self.assertEqual((refused.exception.line, refused.exception.word), (0, 0))
                with self.assertRaises(BadText) as refused:
                    read(thing, first=7)
                self.assertEqual((refused.exception.line, refused.exception.word), (0, 0))


class EditsTest(ReadingTest):
    def test_none(self):
        for text in ("", "   ", "\n", "  \n\n "):
            self.assertEqual(edits_in(text), ())

    def test_several(self):
        text = "\n".join(EDIT_LINES)
        self.assertEqual(edits_in(text), EDITS)
        self.assertEqual(edits_in(text.replace("\n", "\n  \n")), EDITS)
        self.assertEqual(edits_in("\n".join(EDIT_LINES[::-1])), EDITS[::-1])
        self.assertEqual(edits_in("skew r 1\nskew r 1"), (("skew", "r", 1), ("skew", "r", 1)))

    def test_however_many(self):
        self.assertEqual(edits_in("data r g\n" * 1300), (("data", "r", "g"),) * 1300)

    def test_refused(self):
        self.need_refused(edits_in, "period 1\nperiod 0\nperiod", 2, 2)
        self.need_refused(edits_in, "period 1\n\nskew r", 3, 3)
        self.need_refused(edits_in, "period 1; period 2", 1, 2)
        self.need_refused(edits_in, "period 1\nclock 5", 2, 1)
        for word in ("input", "register", "output", "late", "Data", "a", "", "/"):
            self.need_refused(edits_in, f"{word} ? ?", 1, 1)


class NetlistTest(ReadingTest):
    def need_place(self, text, place):
        with self.assertRaises(BadNetlist) as refused:
            netlist_in(text)
        self.assertEqual((type(refused.exception), refused.exception.place), (BadNetlist, place), text[:80])

    def test_lines_read(self):
        self.assertEqual(netlist_in("\n".join(LINES)), GOOD)
        self.assertEqual(netlist_in("\n\n   \n" + "\n \n".join(LINES) + "\n\n", first=0), GOOD)
        self.assertEqual(netlist_in("input a"), (("a",), (), (), ()))
        self.assertEqual(netlist_in("register r r 1 2 -3 4"), ((), (), (("r", "r", 1, 2, -3, 4),), ()))

    def test_lines_stand_in_their_order(self):
        heads = ("input", "gate", "register", "output")
        rows = {"input": "input {}", "gate": "gate {} not s / 1 2"}
        rows = {**rows, "register": "register {} s 0 0 0 0", "output": "output {} s"}
        for ahead in heads:
            for behind in heads:
                text = rows[ahead].format("a") + "\n" + rows[behind].format("s")
                if heads.index(behind) < heads.index(ahead):
                    self.need_refused(netlist_in, text, 2, 1)
                elif behind == "register":
                    self.assertEqual(netlist_in(text)[2][-1][0], "s")
                elif (ahead, behind) == ("input", "input"):
                    self.assertEqual(netlist_in(text), (("a", "s"), (), (), ()))
                else:
                    with self.assertRaises(BadNetlist):
                        netlist_in(text)
        lines = LINES[:2] + LINES[5:7] + LINES[2:5] + LINES[7:]
        self.need_refused(netlist_in, "\n".join(lines), 5, 1)
        self.need_refused(netlist_in, "\n".join(LINES + ["input c"]), 10, 1)
        self.need_refused(netlist_in, "\n".join(LINES[::-1]), 3, 1)

    def test_each_word_can_be_wrong_or_lack(self):
        for number, line in enumerate(LINES):
            words = line.split()
            for at in range(len(words)):
                for wrong in ("?", "A", "1a", "1000", "-1000", "01", "/a"):
                    lines = LINES[:number] + [" ".join(words[:at] + [wrong] + words[at + 1 :])] + LINES[number + 1 :]
                    self.need_refused(netlist_in, "\n".join(lines), number + 1, at + 1)
            for many in range(1, len(words)):
                lines = LINES[:number] + [" ".join(words[:many])] + LINES[number + 1 :]
                if line.startswith("gate") and many == len(words) - 3:
                    # One CORNER less than at the other gates.
                    self.need_place("\n".join(lines), (1, 1 if number == 2 else number - 2))
                else:
                    self.need_refused(netlist_in, "\n".join(lines), number + 1, many + 1)

    def test_words_too_many(self):
        for number, line in enumerate(LINES):
            for more in ("a", "5", "?", "input", "/") if not line.startswith("gate") else ("a", "5", "?", "gate"):
                lines = LINES[:number] + [f"{line} {more}"] + LINES[number + 1 :]
                self.need_refused(netlist_in, "\n".join(lines), number + 1, len(line.split()) + 1)
        self.need_refused(netlist_in, "input a\ngate g not a / 1 1 / 2 2 / 3 3 / 4 4", 2, 14)
        self.need_refused(netlist_in, "input a\ngate g not a / 1 1 / 2 2 / 3 3 4", 2, 14)

    def test_pins_and_pairs(self):
        for line, word in (
            ("gate g", 3),
            ("gate g not", 4),
            ("gate g not / 1 2", 4),
            ("gate g not a", 5),
            ("gate g not a b / 1 2", 5),
            ("gate g not a 1 2", 5),
            ("gate g and a / 1 2", 5),
            ("gate g and a b", 6),
            ("gate g and a b 1 2", 6),
            ("gate g xor a b c", 7),
            ("gate g xor a b c d / 1 2", 7),
            ("gate g or a b /", 7),
            ("gate g or a b / /", 7),
            ("gate g or a b / 1", 8),
            ("gate g or a b / 2 1", 8),
            ("gate g or a b / 1 2 3", 9),
            ("gate g or a b / 1 2 /", 10),
            ("gate g or a b / 1 2 / 3 2", 11),
            ("gate g nand a b c / 1 2 / 3 4 / 5", 15),
            ("gate g and and and / 1 2 / 3 x", 11),
            ("gate g maybe a b / 1 2", 3),
        ):
            self.need_refused(netlist_in, f"input a\ninput b\n{line}\noutput o g", 3, word)

    def test_first_words(self):
        for word in ("inputs", "Input", "a", "clock", "delays", "/", "1", "input/"):
            self.need_refused(netlist_in, f"{word} a", 1, 1)
            self.need_refused(netlist_in, f"input a\n{word} a", 2, 1)

    def test_what_is_no_netlist(self):
        for text, place in (
            ("", (0,)),
            ("\n  \n", (0,)),
            ("gate g not a / 1 2", (0,)),
            ("output o o", (0,)),
            ("input a\ninput a", (0, 1)),
            ("\n".join(f"input {name}" for name in "abcdef"), (0,)),
            ("input a\ngate a not a / 1 2", (1, 0)),
            ("input a\ngate g and a a / 1 2", (1, 0)),
            ("input a\ngate g not b / 1 2", (1, 0)),
            ("input a\ngate g and a g / 1 2", (1, 0)),
            ("input a\ngate g not a / 1 2\ngate h not a / 1 2 / 3 4", (1, 1)),
            ("input a\nregister r b 0 0 0 0", (2, 0)),
            ("input a\nregister r a 0 0 0 0\nregister r a 0 0 0 0", (2, 1)),
            ("input a\noutput o o", (3, 0)),
            ("input a\noutput a a", (3, 0)),
            ("\n".join(["input a"] + [f"gate {name} not a / 1 2" for name in "bcdefghijklmnop"]), (1,)),
            ("\n".join(["input a"] + [f"register {name} a 1 2 -3 4" for name in "bcdef"]), (2,)),
            ("\n".join(["input a"] + [f"output {name} a" for name in "bcdef"]), (3,)),
            (netlist_text((SIXTY[0], MANY_WAYS, (("r", "a", 0, 0, 0, 0),), SIXTY[3])), (1,)),
        ):
            self.need_place(text, place)

    def test_words_are_told_ahead_of_places(self):
        self.need_refused(netlist_in, "input a\ninput a\noutput o", 3, 3)
        self.need_refused(netlist_in, "output o x\noutput o 5", 2, 3)
        self.need_refused(netlist_in, "gate g and a a / 1 2\n?", 2, 1)


class NamesTest(unittest.TestCase):
    def test_names_may_be_words_of_these_texts(self):
        text = (
            "input input\ninput x\n"
            "gate gate not register / 1 2\ngate and and input gate / 1 2\n"
            "register register gate 0 0 0 0\noutput output and"
        )
        self.assertEqual(
            netlist_in(text),
            (
                ("input", "x"),
                (("gate", "not", ("register",), D), ("and", "and", ("input", "gate"), D)),
                (("register", "gate", 0, 0, 0, 0),),
                (("output", "and"),),
            ),
        )
        self.assertEqual(edit_in("gate gate and and or nor"), ("gate", "gate", "and", ("and", "or", "nor")))
        self.assertEqual(edit_in("delays delays / 1 2"), ("delays", "delays", D))
        self.assertEqual(edit_in("data data data"), ("data", "data", "data"))
        self.assertEqual(edit_in("checks checks 1 2 -3 4"), ("checks", "checks", 1, 2, -3, 4))
        self.assertEqual(edit_in("skew skew 1"), ("skew", "skew", 1))
        self.assertEqual(path_in("late cut ask x clock"), ("late", "cut", "ask", "x", "clock"))
        cases = ("ask", "ask", ("cut", "cut", "cut"), ("cut", "ask", "cut"))
        self.assertEqual(cases_in("ask ask cut cut cut cut ask cut"), cases)
        self.assertEqual(cases_in("cut ask cut"), ("cut", "ask", "cut"))
        self.assertEqual(ring_in("late 0 low high / low low"), (("late", ("low", "high"), 0), ("low", "low")))

    def test_names_are_not_looked_at_otherwise(self):
        self.assertEqual(path_in("a a a"), ("a", "a", "a"))
        self.assertEqual(edit_in("gate g and g g"), ("gate", "g", "and", ("g", "g")))
        self.assertEqual(ring_in("low a / low a"), (("low", "a"), ("low", "a")))
        self.assertEqual(cases_in("ask a ask a cut a a cut a a cut a a")[2][1], "a")


class BackTest(unittest.TestCase):
    def test_netlists_come_back(self):
        for netlist in [GOOD, BACKWARD, SIXTY] + [random_netlist(seed) for seed in range(200)]:
            text = netlist_text(netlist)
            self.assertEqual(netlist_in(text), netlist)
            self.assertEqual(netlist_in(text.replace(" ", "   ").replace("\n", "  \n\n ")), netlist)
            self.assertEqual(netlist_text(netlist_in(text)), text)

    def test_other_things_come_back(self):
        dice = random.Random(5)

        def cases(deep):
            if deep == 0 or dice.random() < 0.3:
                return ("cut", dice.choice("abc"), dice.choice(("ask", "cut")))
            return ("ask", dice.choice("abc"), cases(deep - 1), cases(deep - 1))

        for _ in range(200):
            names = tuple(dice.choice("abc") for _ in range(dice.randint(2, 16)))
            clock = (dice.randint(1, 99999), tuple(dice.randint(-9999, 9999) for _ in range(dice.randint(0, 4))))
            filling = tuple(dice.choice((0, 1, None)) for _ in range(dice.randint(1, 6)))
            edits = tuple(dice.choices(EDITS, k=dice.randint(0, 9)))
            ring = tuple(dice.choices(RING, k=dice.randint(1, 9)))
            tree = cases(6)
            self.assertEqual(path_in(path_text(names)), names)
            self.assertEqual(clock_in(clock_text(clock)), clock)
            self.assertEqual(filling_in(filling_text(filling)), filling)
            self.assertEqual(edits_in(edits_text(edits)), edits)
            self.assertEqual(ring_in(ring_text(ring)), ring)
            self.assertEqual(cases_in(cases_text(tree)), tree)


class LongTest(ReadingTest):
    def test_texts_of_twelve_thousand_signs(self):
        blanks = " " * (12000 - len("clock 5"))
        self.assertEqual(clock_in(f"clock{blanks} 5"), (5, ()))
        self.assertEqual(clock_in("\n" * 11993 + "clock 5"), (5, ()))
        self.need_refused(clock_in, "\n" * 12000, 12002, 1)
        self.need_refused(clock_in, "1" * 12000, 1, 1)
        self.need_refused(clock_in, "clock " + "1" * 11994, 1, 2)
        self.need_refused(clock_in, "clock 5 -" + "1" * 11991, 1, 3)
        self.assertEqual(path_in("a " * 6000), ("a",) * 6000)
        self.need_refused(path_in, "a " * 5999 + "?", 1, 6000)
        self.need_refused(filling_in, "1 " * 6000, 1, 7)
        self.assertEqual(len(ring_in(("low r / " * 1500)[:-3])), 1500)
        self.need_refused(ring_in, "low r / " * 1500, 1, 4501)
        self.need_refused(edits_in, "period 1\n" * 1332 + "period", 1333, 2)
        with self.assertRaises(BadNetlist) as refused:
            netlist_in(("gate g and a b / 1 2\n" * 600)[:12000].rpartition("\n")[0])
        self.assertEqual(refused.exception.place, (1,))


if __name__ == "__main__":
    unittest.main()
