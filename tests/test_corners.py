import unittest

from plainly import STEPS

from millpath.corners import stepped, straight

CORNERS = [(0, 0), (3, -2), (-7, 11), (-300, 300), (12345678, -87654321), (-99999999, -1)]
MANY = [0, 1, 2, 5, 299, 123456789, 999999999]


class Stepped(unittest.TestCase):
    def test_eight_directions(self):
        for direction, (dx, dy) in enumerate(STEPS):
            for x, y in CORNERS:
                for many in MANY:
                    self.assertEqual(stepped((x, y), direction, many), (x + dx * many, y + dy * many))

    def test_there_and_back(self):
        for direction in range(8):
            for corner in CORNERS:
                for many in MANY:
                    there = stepped(corner, direction, many)
                    self.assertEqual(stepped(there, (direction + 4) % 8, many), corner)

    def test_more_steps_are_all_together(self):
        for direction in range(8):
            for corner in CORNERS:
                for one in MANY:
                    for other in MANY:
                        there = stepped(stepped(corner, direction, one), direction, other)
                        self.assertEqual(there, stepped(corner, direction, one + other))

    def test_lists_are_taken_and_stay_and_tuples_are_told(self):
        for direction in range(8):
            corner = [4, -9]
            told = stepped(corner, direction, 3)
            self.assertIs(type(told), tuple)
            self.assertEqual(told, stepped((4, -9), direction, 3))
            self.assertEqual(corner, [4, -9])
        self.assertIs(type(stepped([4, -9], 0, 0)), tuple)


class Straight(unittest.TestCase):
    def test_near_and_far(self):
        for direction, (dx, dy) in enumerate(STEPS):
            for x, y in CORNERS:
                for many in MANY[1:]:
                    other = (x + dx * many, y + dy * many)
                    self.assertEqual(straight((x, y), other), (direction, many))
                    self.assertEqual(straight(other, (x, y)), ((direction + 4) % 8, many))

    def test_beside_a_straight_line(self):
        for direction, (dx, dy) in enumerate(STEPS):
            for many in (3, 7, 250, 123456789):
                for off in (-2, -1, 1, 2):
                    # Off the line by x or by y, but not along it.
                    if dy != 0:
                        self.assertIsNone(straight((5, -6), (5 + dx * many + off, -6 + dy * many)))
                    if dx != 0:
                        self.assertIsNone(straight((5, -6), (5 + dx * many, -6 + dy * many + off)))

    def test_all_of_a_small_field(self):
        for x in range(-5, 6):
            for y in range(-5, 6):
                ways = [(way, many) for way, (dx, dy) in enumerate(STEPS) for many in range(1, 6)
                        if (dx * many, dy * many) == (x, y)]
                self.assertEqual(straight((2, -3), (2 + x, -3 + y)), ways[0] if ways else None)

    def test_to_itself(self):
        for corner in CORNERS:
            self.assertIsNone(straight(corner, corner))
            self.assertIsNone(straight(corner, list(corner)))

    def test_lists_are_taken_and_stay_and_tuples_are_told(self):
        one, other = [1, 2], [4, 5]
        for told in (straight(one, other), straight((1, 2), other), straight(one, (4, 5))):
            self.assertEqual(told, (1, 3))
            self.assertIs(type(told), tuple)
        self.assertEqual((one, other), ([1, 2], [4, 5]))


if __name__ == "__main__":
    unittest.main()
