import unittest

from gateslack.words import MOST, is_name, is_whole, number_in
from samples import deep, no_names, no_texts, no_wholes


class WholeTest(unittest.TestCase):
    def test_most(self):
        self.assertIs(type(MOST), int)
        self.assertEqual(MOST, 999)

    def test_bounds_that_are_not_told(self):
        for number, answer in ((-1, False), (0, True), (1, True), (500, True), (999, True), (1000, False)):
            self.assertIs(is_whole(number), answer, number)

    def test_bounds_that_are_told(self):
        for number, answer in ((-21, False), (-20, True), (0, True), (30, True), (31, False)):
            self.assertIs(is_whole(number, least=-20, most=30), answer, number)
        self.assertIs(is_whole(-5, least=-5), True)
        self.assertIs(is_whole(1000, most=1000), True)
        self.assertIs(is_whole(7, least=7, most=7), True)
        self.assertIs(is_whole(7, least=8, most=6), False)
        self.assertIs(is_whole(thing=3, least=1, most=3), True)

    def test_numbers_of_thousands_of_figures(self):
        self.assertIs(is_whole(10**5000), False)
        self.assertIs(is_whole(-(10**5000)), False)
        self.assertIs(is_whole(10**5000, most=10**5000), True)

    def test_other_kinds(self):
        for thing in no_wholes():
            self.assertIs(is_whole(thing), False)
            self.assertIs(is_whole(thing, least=-(10**9), most=10**9), False)

    def test_bounds_by_names_alone(self):
        with self.assertRaises(TypeError):
            is_whole(1, 0)


class NameTest(unittest.TestCase):
    def test_names(self):
        for name in ("a", "z", "az", "gate", "not", "input", "abcdefgh", "zzzzzzzz"):
            self.assertIs(is_name(name), True, name)
        self.assertIs(is_name(thing="a"), True)

    def test_lengths(self):
        for many in range(12):
            self.assertIs(is_name("x" * many), 1 <= many <= 8, many)

    def test_each_sign_alone(self):
        for number in range(0x500):
            self.assertIs(is_name(chr(number)), ord("a") <= number <= ord("z"), number)

    def test_others(self):
        for thing in no_names():
            self.assertIs(is_name(thing), False)


class NumberInTest(unittest.TestCase):
    def test_numbers(self):
        for number in (0, 1, 9, 10, 100, 998, 999):
            found = number_in(str(number))
            self.assertEqual(found, number)
            self.assertIs(type(found), int)
        self.assertEqual(number_in(word="12", least=12, most=12), 12)

    def test_bounds_that_are_not_told(self):
        self.assertIsNone(number_in("-1"))
        self.assertIsNone(number_in("1000"))

    def test_bounds_that_are_told(self):
        for text, answer in (("-21", None), ("-20", -20), ("30", 30), ("31", None)):
            self.assertEqual(number_in(text, least=-20, most=30), answer, text)
        self.assertIsNone(number_in("4", least=5))
        self.assertEqual(number_in("5", least=5), 5)

    def test_widest_bounds(self):
        widest = {"least": -9999, "most": 99999}
        for text, answer in (("-10000", None), ("-9999", -9999), ("99999", 99999), ("100000", None)):
            self.assertEqual(number_in(text, **widest), answer, text)

    def test_never_beyond_the_widest_bounds(self):
        wider = {"least": -(10**6), "most": 10**6}
        for text, answer in (("-10000", None), ("-9999", -9999), ("99999", 99999), ("100000", None)):
            self.assertEqual(number_in(text, **wider), answer, text)

    def test_each_number_is_written_in_one_way(self):
        for number in range(-1100, 1100):
            self.assertEqual(number_in(str(number), least=-1000, most=1000), number if abs(number) <= 1000 else None)

    def test_other_texts(self):
        texts = ["", "-", "--1", "+1", "00", "01", "007", "-0", "-01", "1 ", " 1", "1\n", "1_0", "1.0", "0x1", "1e2"]
        texts += ["a", "1a", "a1", "1-", "- 1", "\u0661", "\u00b2", "\uff11", "1" * 5000, "-" + "1" * 5000, "0" * 12000]
        for text in texts:
            self.assertIsNone(number_in(text, least=-9999, most=99999))

    def test_no_texts(self):
        for thing in no_texts():
            self.assertIsNone(number_in(thing, least=-9999, most=99999))
        self.assertIsNone(number_in(deep()))


if __name__ == "__main__":
    unittest.main()
