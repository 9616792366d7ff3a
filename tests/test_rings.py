import random
import unittest

from plainly import CUT_BOX, U_FORM, as_lists, as_tuples, mark, quarters_of, shifted
from plainpaths import (ASLANT, BOX_30, ISLANDS, TOOLS, TWO_ROOMS, lists_in, marks_laid, plain_centres, plain_depths,
                        plain_reached, random_points, random_region, region_of, shuffled)

from millpath.reach import centres
from millpath.rings import depths_in, is_covering, rings
from millpath.tools import half_of

FIELD = [(x, y) for x in range(30) for y in range(30)]
POINTS = [
    [], [(0, 0)], [(-3, 7)], [(x, 4) for x in range(9)], [(-2, y) for y in range(6)], [(x, x) for x in range(7)],
    [(x, -x) for x in range(5)], [(x, y) for x in range(3) for y in range(3)],
    [(x, y) for x in range(-4, 5) for y in range(-9, -2)], [(x, y) for x in range(2) for y in range(12)],
    [(x, y) for x in range(9) for y in range(9) if (x, y) != (4, 4)],
    [(x, y) for x in range(9) for y in range(9) if (x, y) not in ((0, 0), (8, 8), (3, 6))],
    [(x, y) for x in range(20) for y in range(7) if x not in (7, 8)],
    [(x, y) for x in range(11) for y in range(11) if 5 <= x + y <= 15 and abs(x - y) <= 5],
    [(x, y) for x in range(13) for y in range(8) if (x + y) % 2 == 0],
]


class DepthsIn(unittest.TestCase):
    def check(self, points):
        told = depths_in(points)
        self.assertEqual(told, plain_depths(points))
        self.assertIs(type(told), list)
        self.assertTrue(all(type(pair) is tuple and type(pair[0]) is tuple for pair in told))

    def test_forms(self):
        for points in POINTS:
            self.check(points)

    def test_a_box_of_three_and_one_of_five(self):
        self.assertEqual(depths_in([(x, y) for x in range(3) for y in range(3)])[4], ((1, 1), 1))
        told = dict(depths_in([(x, y) for x in range(5) for y in range(5)]))
        self.assertEqual([told[(x, 2)] for x in range(5)], [0, 1, 2, 1, 0])
        self.assertEqual([told[(x, x)] for x in range(5)], [0, 1, 2, 1, 0])

    def test_all_of_thirty_by_thirty(self):
        self.assertEqual(depths_in(FIELD), [((x, y), min(x, y, 29 - x, 29 - y)) for x, y in FIELD])
        hole = [corner for corner in FIELD if corner != (11, 20)]
        self.assertEqual(depths_in(hole), [
            ((x, y), min(x, y, 29 - x, 29 - y, max(abs(x - 11), abs(y - 20)) - 1)) for x, y in hole])

    def test_what_chance_brings(self):
        source = random.Random(101)
        for _ in range(80):
            self.check(random_points(source, source.randint(1, 14), source.randint(1, 14), source.choice([0.5, 0.9, 1])))

    def test_any_order_and_kinds_and_the_askers_own(self):
        source = random.Random(102)
        for points in POINTS:
            wanted = plain_depths(points)
            for handed in (points[::-1], as_lists(shuffled(source, points)), as_tuples(shuffled(source, points))):
                ahead = repr(handed)
                told = depths_in(handed)
                self.assertEqual(told, wanted)
                self.assertTrue(all(type(pair[0]) is tuple for pair in told))
                told.append("more")
                self.assertEqual(depths_in(handed), wanted)
                self.assertEqual(repr(handed), ahead)

    def test_the_very_list_changed(self):
        points = as_lists(POINTS[7])
        self.assertEqual(depths_in(points)[4], ((1, 1), 1))
        gone = points.pop(0)
        self.assertNotIn(1, [depth for corner, depth in depths_in(points)])
        points.append(gone)
        self.assertEqual(depths_in(points)[4], ((1, 1), 1))


class Rings(unittest.TestCase):
    def check(self, points, first, width):
        depths = plain_depths(points)
        deepest = max([depth for corner, depth in depths], default=-1)
        wanted = [[corner for corner, depth in depths if depth == at] for at in range(first, deepest + 1, width)]
        told = rings(points, first, width)
        self.assertEqual(told, wanted)
        self.assertTrue(all(type(ring) is list for ring in lists_in(told)))
        self.assertTrue(all(type(corner) is tuple for ring in told for corner in ring))

    def test_each_first_and_width(self):
        for points in POINTS:
            for first in range(7):
                for width in range(1, 7):
                    self.check(points, first, width)

    def test_no_corners_and_firsts_beyond_all_depths(self):
        self.assertEqual(rings([], 0, 1), [])
        self.assertEqual(rings((), 3, 2), [])
        for first in (15, 16, 99):
            self.assertEqual(rings(FIELD, first, 1), [])
        self.assertEqual(rings(FIELD, 14, 1), [[(14, 14), (14, 15), (15, 14), (15, 15)]])
        self.assertEqual(rings(FIELD, 14, 9), [[(14, 14), (14, 15), (15, 14), (15, 15)]])

    def test_all_of_thirty_by_thirty(self):
        for first, width in ((0, 1), (0, 5), (2, 3), (5, 4), (1, 30)):
            self.check(FIELD, first, width)
        self.assertEqual([len(ring) for ring in rings(FIELD, 0, 1)], [4 * side - 4 for side in range(30, 0, -2)])

    def test_what_chance_brings(self):
        source = random.Random(103)
        for _ in range(80):
            points = random_points(source, source.randint(1, 14), source.randint(1, 14), source.choice([0.6, 0.95, 1]))
            self.check(points, source.randint(0, 4), source.randint(1, 4))

    def test_any_order_and_kinds_and_the_askers_own(self):
        source = random.Random(104)
        for points in POINTS:
            wanted = rings(points, 0, 1)
            for handed in (points[::-1], as_lists(shuffled(source, points)), as_tuples(shuffled(source, points))):
                ahead = repr(handed)
                told = rings(handed, 0, 1)
                self.assertEqual(told, wanted)
                self.assertEqual(len({id(part) for part in lists_in(told)}), len(told) + 1)
                for ring in told:
                    ring.append("more")
                told.append([])
                self.assertEqual(rings(handed, 0, 1), wanted)
                self.assertEqual(repr(handed), ahead)


class IsCovering(unittest.TestCase):
    def setUp(self):
        self.regions = [
            region_of(CUT_BOX), region_of(TWO_ROOMS), region_of(ASLANT), region_of(BOX_30, ISLANDS),
            region_of([(x * 3, y * 3) for x, y in U_FORM]), region_of([(0, 0), (20, 0), (20, 9), (0, 9)]),
        ]

    def test_all_centres_one_beyond_none(self):
        for region in self.regions:
            for tool in TOOLS[:4]:
                points = plain_centres(region, tool)
                self.assertIs(is_covering(region, tool, points), True)
                self.assertIs(is_covering(region, tool, []), not points)
                self.assertIs(is_covering(region, tool, points + [(-200, 7)]), False)
                if points:
                    x, y = points[0]
                    self.assertIs(is_covering(region, tool, points + [(x - 1, y)]), False)
                    self.assertIs(is_covering(region, tool, points + [points[0]]), True)
                    self.assertIs(is_covering(region, tool, points[::-1] + points), True)

    def test_one_left_out(self):
        for region in self.regions[:3]:
            for tool in TOOLS[:4]:
                points, there = plain_centres(region, tool), plain_reached(region, tool)
                for at in range(len(points)):
                    some = points[:at] + points[at + 1:]
                    self.assertIs(is_covering(region, tool, some), marks_laid(tool, some) == there)
        tool = TOOLS[0]
        pair = sorted(quarters_of(mark(tool, (0, 0))) | quarters_of(mark(tool, (0, 1))))
        self.assertIs(is_covering(pair, tool, [(0, 0), (0, 1)]), True)
        self.assertIs(is_covering(pair, tool, [(0, 0)]), False)
        self.assertIs(is_covering(pair, tool, [(0, 1)]), False)

    def test_those_of_depth_0_alone(self):
        region, tool = region_of(BOX_30), TOOLS[0]
        self.assertIs(is_covering(region, tool, rings(centres(region, tool), 0, 1)[0]), False)
        small = region_of([(0, 0), (6, 0), (6, 6), (0, 6)])
        self.assertIs(is_covering(small, tool, rings(centres(small, tool), 0, 1)[0]), True)

    def test_no_centres(self):
        region = region_of(CUT_BOX)
        self.assertIs(is_covering(region, TOOLS[-1], []), True)
        self.assertIs(is_covering(region, TOOLS[-1], [(3, 3)]), False)
        self.assertIs(is_covering([], TOOLS[0], []), True)
        self.assertIs(is_covering([], TOOLS[0], [(3, 3)]), False)

    def test_rings_leave_nothing_by_widths_up_to_half(self):
        for region in self.regions:
            for tool in TOOLS:
                points = centres(region, tool)
                rim = [corner for corner, depth in depths_in(points) if depth == 0]
                for first in range(half_of(tool) + 1):
                    for width in range(1, half_of(tool) + 1):
                        some = sorted(set(rim + [corner for ring in rings(points, first, width) for corner in ring]))
                        self.assertIs(is_covering(region, tool, some), True, (tool, first, width))

    def test_what_chance_brings(self):
        source = random.Random(105)
        for _ in range(150):
            region, tool = random_region(source, 14), source.choice(TOOLS[:3])
            points = plain_centres(region, tool)
            some = [corner for corner in points if source.random() < 0.95]
            wanted = marks_laid(tool, some) == marks_laid(tool, points)
            self.assertIs(is_covering(region, tool, shuffled(source, some)), wanted)

    def test_kinds_which_stay(self):
        region, tool = region_of(CUT_BOX), TOOLS[0]
        points = plain_centres(region, tool)
        for handed in (as_lists, as_tuples):
            things = [handed(region[::-1]), handed(tool), handed(points[::-1])]
            ahead = repr(things)
            self.assertIs(is_covering(*things), True)
            self.assertIs(is_covering(*things), True)
            self.assertEqual(repr(things), ahead)
        moved = as_lists(shifted(points, 0, 0))
        moved[0][0] -= 1
        self.assertIs(is_covering(region, tool, moved), False)
        moved[0][0] += 1
        self.assertIs(is_covering(region, tool, moved), True)

    def test_a_thousand_corners(self):
        region, tool = region_of(BOX_30), (6, 1, 1, 1, 1)
        points = centres(region, tool)
        self.assertIs(is_covering(region, tool, (points * 3)[:1000]), True)


if __name__ == "__main__":
    unittest.main()
