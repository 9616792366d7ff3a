import unittest

from plainly import ODD_THINGS, STEPS, has_point, points_in

from millpath.tools import half_of, is_tool, mark_of, swept

TOOLS = [(r, k, 1, 2, 3) for r in range(2, 7) for k in range(1, r)]
CORNERS = [(0, 0), (4, 9), (-3, 7), (-250, -300), (12345678, -987654321)]


class IsTool(unittest.TestCase):
    def check(self, parts, told):
        self.assertIs(is_tool(tuple(parts)), told, parts)
        self.assertIs(is_tool(list(parts)), told, parts)

    def test_r_and_k_at_their_edges_and_beyond(self):
        for r in range(-1, 10):
            for k in range(-1, 10):
                self.check((r, k, 1, 1, 1), 1 <= k < r <= 6)

    def test_the_others_at_their_edges_and_beyond(self):
        for at in (2, 3, 4):
            for number in range(-2, 13):
                parts = [3, 2, 5, 5, 5]
                parts[at] = number
                self.check(parts, 1 <= number <= 9)

    def test_great_numbers(self):
        for at in range(5):
            for number in (10 ** 9, -10 ** 9):
                parts = [3, 2, 5, 5, 5]
                parts[at] = number
                self.check(parts, False)

    def test_one_number_less_or_more(self):
        self.check((3, 2, 5, 5), False)
        self.check((3, 2, 5, 5, 5, 5), False)
        self.check((), False)

    def test_parts_of_other_kinds(self):
        for at in range(5):
            for part in (True, False, None, "1", "", 2.0, [1], (1,), {}, object()):
                parts = [2, 1, 1, 1, 1]
                parts[at] = part
                self.check(parts, False)

    def test_things_that_are_nothing_of_the_kind(self):
        for thing in ODD_THINGS:
            self.assertIs(is_tool(thing), False, thing)
        self.assertIs(is_tool({3: 1, 2: 1, 4: 1, 5: 1, 6: 1}), False)

    def test_what_is_handed_in_stays(self):
        parts = [3, 2, 5, 5, 5]
        self.assertIs(is_tool(parts), True)
        self.assertEqual(parts, [3, 2, 5, 5, 5])


class MarkOf(unittest.TestCase):
    def test_eight_numbers(self):
        for tool in TOOLS:
            r, k = tool[:2]
            for x, y in CORNERS:
                told = mark_of(tool, (x, y))
                self.assertIs(type(told), tuple)
                self.assertEqual(told, (
                    x - r, x + r, y - r, y + r, x + y - r - k, x + y + r + k, x - y - r - k, x - y + r + k))

    def test_by_each_point(self):
        for tool in TOOLS:
            r, k = tool[:2]
            octo = mark_of(tool, (-2, 3))
            for dx in range(-16, 17):
                for dy in range(-16, 17):
                    inside = max(abs(dx), abs(dy)) <= 2 * r and abs(dx) + abs(dy) <= 2 * (r + k)
                    self.assertEqual(has_point(octo, (2 * -2 + dx, 2 * 3 + dy)), inside)

    def test_lists_are_taken_and_stay(self):
        tool, corner = [4, 3, 1, 1, 1], [-5, 6]
        told = mark_of(tool, corner)
        self.assertIs(type(told), tuple)
        self.assertEqual(told, mark_of((4, 3, 1, 1, 1), (-5, 6)))
        self.assertEqual((tool, corner), ([4, 3, 1, 1, 1], [-5, 6]))


class Swept(unittest.TestCase):
    def test_one_corner(self):
        for tool in TOOLS:
            for corner in CORNERS:
                self.assertEqual(swept(tool, corner, corner), mark_of(tool, corner))

    def test_steps_by_each_point(self):
        for tool in TOOLS:
            for dx, dy in STEPS:
                for many in (1, 2, 3, 6):
                    way = [(4 + dx * step, -3 + dy * step) for step in range(many + 1)]
                    marks = set().union(*[points_in(mark_of(tool, corner)) for corner in way])
                    there = swept(tool, way[0], way[-1])
                    self.assertEqual(points_in(there), marks)
                    self.assertEqual(swept(tool, way[-1], way[0]), there)

    def test_far_ways(self):
        tool = (5, 2, 1, 1, 1)
        x, y, far = -1234, 987, 10 ** 8
        first = mark_of(tool, (x, y))
        for dx, dy in STEPS:
            last = mark_of(tool, (x + dx * far, y + dy * far))
            ends = tuple([max, min][at % 2 == 0](first[at], last[at]) for at in range(8))
            self.assertEqual(swept(tool, (x, y), (x + dx * far, y + dy * far)), ends)
            self.assertEqual(swept(tool, (x + dx * far, y + dy * far), (x, y)), ends)

    def test_lists_are_taken_and_stay(self):
        tool, one, other = [4, 3, 1, 1, 1], [-5, 6], [-1, 2]
        told = swept(tool, one, other)
        self.assertIs(type(told), tuple)
        self.assertEqual(told, swept((4, 3, 1, 1, 1), (-5, 6), (-1, 2)))
        self.assertEqual((tool, one, other), ([4, 3, 1, 1, 1], [-5, 6], [-1, 2]))


class HalfOf(unittest.TestCase):
    def test_all_tools(self):
        for tool in TOOLS:
            half = half_of(tool)
            self.assertIn(tool[0] + tool[1] - 2 * half, (0, 1))
            self.assertEqual(half_of(list(tool)), half)
        self.assertEqual([half_of((2, 1, 9, 9, 9)), half_of((6, 5, 1, 1, 1)), half_of((3, 1, 1, 1, 1))], [1, 5, 2])


if __name__ == "__main__":
    unittest.main()
