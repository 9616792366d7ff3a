import unittest

from plainly import STAIRS
from plainpaths import region_of
from plainplate import all_quarters

from millpath.sheet import stays_in
from millpath.words import is_name, number_in, numbers_in, outline_in


class Words(unittest.TestCase):
    def test_numbers(self):
        for number in (0, 1, 9, 10, 99, 100, 999, 1000, 1010, 9999, -1, -9, -10, -999, -1000, -9999):
            self.assertEqual(number_in(str(number)), number)
        for word in ("10000", "-10000", "12345", "99999", "", "-", "-0", "00", "0000", "01", "-01", "+1", "+0", "--1", "1-",
                     " 1", "1 ", "1.", "1a", "a", "1\n", "\u0661", "\u00b2", "1_0", "0-", "-1-"):
            self.assertIsNone(number_in(word), word)
        self.assertEqual(numbers_in(["3", "-4", "0"]), [3, -4, 0])
        self.assertEqual(numbers_in([]), [])
        self.assertIsNone(numbers_in(["3", "-0", "0"]))

    def test_names(self):
        for word in ("a", "z", "az", "abcdefgh", "qqqqqqqq"):
            self.assertIs(is_name(word), True)
        for word in ("", "abcdefghi", "A", "aB", "a1", "a b", " a", "a ", "a\n", "\u00e4", "\u00aa", "_", "a-"):
            self.assertIs(is_name(word), False)

    def test_outlines(self):
        self.assertEqual(outline_in("0 0 2 0 0 2".split()), [(0, 0), (2, 0), (0, 2)])
        words = [str(number) for corner in STAIRS for number in corner]
        self.assertEqual(outline_in(words), STAIRS)
        self.assertIsNone(outline_in(words[:-2] + ["11", "5"] + words[-2:]))
        for text in ("0 0 2 0 0 2 1", "0 0 2 0", "0 0 2 0 0 3", "0 0 61 0 61 1 0 1", "0 0 2 0 a 2", "0 0 2 0 0 02"):
            self.assertIsNone(outline_in(text.split()), text)
        self.assertIsNone(outline_in([]))


class Stays(unittest.TestCase):
    def test_what_lies_in_no_pocket_deeper_than_the_layer(self):
        one, other, island = [(1, 1), (6, 1), (6, 6), (1, 6)], [(4, -3), (12, -3), (12, 4), (4, 4)], [(2, 2), (5, 2), (5, 5)]
        free = {1: set(region_of(one, [island])), 3: set(region_of(other))}
        told = stays_in(8, 7, 4, [(1, one, [island]), (3, other, [])])
        whole = all_quarters(8, 7)
        self.assertEqual(told[0], sorted(whole - free[1] - free[3]))
        self.assertEqual(told[1], sorted(whole - free[3]))
        self.assertEqual(told[2], sorted(whole - free[3]))
        self.assertEqual(told[3], sorted(whole))
        self.assertEqual(stays_in(2, 1, 2, []), [sorted(all_quarters(2, 1))] * 2)


if __name__ == "__main__":
    unittest.main()
