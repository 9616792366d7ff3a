import itertools
import random
import unittest

from plainly import (BOX, CUT_BOX, L_FORM, NOTCHED, SQUARE_ON_CORNER, STAIRS, STEPS, TRIANGLE, U_FORM, as_lists,
                     as_tuples, makes_outline, random_outlines, shifted)
from plainpaths import TOOLS, plain_over, plain_way, shuffled, step_between

from millpath.ways import over, over_way

VIEWS = [lambda x, y: (x, y), lambda x, y: (-y, x), lambda x, y: (-x, -y), lambda x, y: (y, -x),
         lambda x, y: (-x, y), lambda x, y: (x, -y), lambda x, y: (y, x), lambda x, y: (-y, -x)]


def viewed(view, thing):
    """Corners, or lists of them, turned or mirrored."""
    if isinstance(thing, tuple):
        return view(*thing)
    return [viewed(view, part) for part in thing]


class OverWay(unittest.TestCase):
    def test_to_itself(self):
        for corner in ((0, 0), (-7, 9), (300, -300)):
            self.assertEqual(over_way(corner, corner), [corner])
            self.assertEqual(over_way(list(corner), corner), [corner])

    def test_straight_and_aslant(self):
        for dx, dy in STEPS:
            for many in (1, 2, 9, 300):
                wanted = [(3 + dx * at, -4 + dy * at) for at in range(many + 1)]
                self.assertEqual(over_way((3, -4), wanted[-1]), wanted)

    def test_words(self):
        self.assertEqual(over_way((0, 0), (3, 1)), [(0, 0), (1, 1), (2, 1), (3, 1)])
        self.assertEqual(over_way((3, 1), (0, 0)), [(3, 1), (2, 0), (1, 0), (0, 0)])
        self.assertEqual(over_way((2, 2), (1, 6)), [(2, 2), (1, 3), (1, 4), (1, 5), (1, 6)])

    def test_every_mix_either_way_about(self):
        for x in range(-7, 8):
            for y in range(-7, 8):
                for one, other in (((2, -1), (x, y)), ((x, y), (2, -1))):
                    told = over_way(one, other)
                    self.assertEqual(told, plain_way(one, other))
                    self.assertEqual((told[0], told[-1]), (one, other))
                    ways = [step_between(*pair) % 2 for pair in zip(told, told[1:])]
                    self.assertEqual(ways, sorted(ways, reverse=True))

    def test_far_ones(self):
        for one, other in (((-300, -300), (300, 299)), ((300, -300), (-299, 300)), ((-300, 5), (300, -4))):
            self.assertEqual(over_way(one, other), plain_way(one, other))

    def test_kinds_and_the_askers_own(self):
        one, other = [0, 5], [-3, 7]
        told = over_way(one, other)
        self.assertIs(type(told), list)
        self.assertTrue(all(type(corner) is tuple for corner in told))
        self.assertEqual(told, over_way((0, 5), (-3, 7)))
        again = list(told)
        told.clear()
        self.assertEqual(over_way(one, other), again)
        self.assertEqual((one, other), ([0, 5], [-3, 7]))


class Over(unittest.TestCase):
    def check(self, tool, one, other, clamps):
        told = over(tool, one, other, clamps)
        self.assertEqual(told, plain_over(tool, one, other, clamps), (tool, one, other, clamps))
        return told

    def test_no_clamp(self):
        for tool in TOOLS:
            self.assertEqual(over(tool, (0, 0), (9, 4), []), "low")
            self.assertEqual(over(tool, (-300, 300), (300, -299), ()), "low")

    def test_touching_in_an_edge_or_corner_alone_and_nearer(self):
        for tool in TOOLS:
            r, both = tool[0], tool[0] + tool[1]
            for x, told in ((r, "low"), (r - 1, "high")):
                for view in VIEWS:
                    beside = viewed(view, shifted([(0, -2), (4, -2), (4, 2), (0, 2)], x, 0))
                    self.assertEqual(over(tool, (0, 0), (0, 0), [beside]), told)
            # Aslant of it: with an edge along the mark's edge aslant, and with a corner on it.
            for leg, told in ((both, "low"), (both - 1, "high")):
                near = leg - tool[1]
                for view in VIEWS:
                    edge = viewed(view, [(leg, 0), (leg, leg), (0, leg)])
                    self.assertEqual(over(tool, (0, 0), (0, 0), [edge]), told)
                    corner = viewed(view, shifted([(0, 0), (3, 0), (3, 3), (0, 3)], near, leg - near))
                    self.assertEqual(over(tool, (0, 0), (0, 0), [corner]), told)

    def test_a_clamp_at_each_corner_of_the_way(self):
        tool = TOOLS[0]
        way = plain_way((0, 0), (14, 5))
        for corner in way:
            self.assertEqual(self.check(tool, way[0], way[-1], [shifted(SQUARE_ON_CORNER, *corner)]), "high")
            self.assertEqual(self.check(tool, way[-1], way[0], [shifted(SQUARE_ON_CORNER, *corner)]),
                             plain_over(tool, way[-1], way[0], [shifted(SQUARE_ON_CORNER, *corner)]))

    def test_at_the_first_and_the_last_corner_alone(self):
        for tool in TOOLS:
            r = tool[0]
            for view in VIEWS:
                one, other = view(0, 0), view(12, 4)
                first = viewed(view, [(-r - 2, -1), (1 - r, -1), (1 - r, 1), (-r - 2, 1)])
                last = viewed(view, [(11 + r, 3), (14 + r, 3), (14 + r, 5), (11 + r, 5)])
                self.assertEqual(self.check(tool, one, other, [first]), "high")
                self.assertEqual(self.check(tool, one, other, [last]), "high")
                self.assertEqual(self.check(tool, one, view(11, 4), [last]), "low")
                self.assertEqual(self.check(tool, view(1, 0), other, [first]), "low")

    def test_the_way_is_aslant_first(self):
        tool = TOOLS[0]
        clamp = [(5, -4), (8, -4), (8, 1), (5, 1)]
        self.assertEqual(self.check(tool, (0, 0), (12, 5), [clamp]), "low")
        self.assertEqual(self.check(tool, (12, 5), (0, 0), [clamp]), "high")

    def test_marks_within_a_clamp_and_clamps_within_a_mark(self):
        far = [(-300, -300), (300, -300), (300, 300), (-300, 300)]
        hollow = [(-20, -20), (20, -20), (20, 20), (-20, 20), (-20, 12), (12, 12), (12, -12), (-12, -12), (-12, 11),
                  (-20, 11)]
        self.assertTrue(makes_outline(hollow))
        for tool in TOOLS:
            self.assertEqual(over(tool, (0, 0), (3, 1), [far]), "high")
            self.assertEqual(over(tool, (-280, 0), (280, 250), [far]), "high")
            self.assertEqual(self.check(tool, (0, 0), (3, 1), [hollow]), "low")
            self.assertEqual(self.check(tool, (0, 0), (0, 0), [TRIANGLE]), "high")
            r, k = tool[:2]
            whole = [(-r, -k), (-k, -r), (k, -r), (r, -k), (r, k), (k, r), (-k, r), (-r, k)]
            self.assertEqual(self.check(tool, (0, 0), (0, 0), [whole]), "high")
            self.assertEqual(self.check(tool, (0, 0), (0, 0), [whole[::-1]]), "high")
            self.assertEqual(self.check(tool, (0, 0), (0, 0), [shifted(whole, 2 * r, 0)]), "low")

    def test_in_the_bay_of_a_clamp(self):
        bay = [(x * 4, y * 4) for x, y in U_FORM]
        for corner in itertools.product(range(8, 21, 2), range(8, 26, 2)):
            for tool in TOOLS[:3]:
                self.check(tool, corner, (14, 20), [bay])

    def test_several_clamps_in_any_order(self):
        clamps = [shifted(BOX, 20, 20), shifted(L_FORM, -20, 3), shifted(CUT_BOX, 6, -9), shifted(NOTCHED, -9, -14),
                  shifted(STAIRS, 3, 8), shifted(SQUARE_ON_CORNER, 12, 2)]
        source = random.Random(121)
        seen = set()
        for _ in range(60):
            some = source.sample(clamps, source.randint(1, 6))
            one = (source.randint(-22, 25), source.randint(-22, 25))
            other = (source.randint(-22, 25), source.randint(-22, 25))
            tool = source.choice(TOOLS)
            told = self.check(tool, one, other, some)
            seen.add(told)
            self.assertEqual(over(tool, one, other, shuffled(source, some)), told)
            self.assertEqual(over(tool, one, other, some * 2), told)
        self.assertEqual(seen, {"low", "high"})

    def test_what_chance_brings_in_all_views(self):
        source = random.Random(122)
        clamps = random_outlines(source, 60, 12)
        for _ in range(250):
            some = [shifted(source.choice(clamps), source.randint(-6, 9), source.randint(-6, 9))
                    for _ in range(source.randint(1, 2))]
            one = (source.randint(-9, 18), source.randint(-9, 18))
            other = (source.randint(-9, 18), source.randint(-9, 18))
            tool = source.choice(TOOLS[:4])
            told = self.check(tool, one, other, some)
            for view in VIEWS:
                self.assertEqual(over(tool, view(*one), view(*other), viewed(view, some)), told)
            moved = [shifted(clamp, -260, 250) for clamp in some]
            self.assertEqual(over(tool, *shifted([one, other], -260, 250), moved), told)

    def test_kinds_which_stay(self):
        clamps = [shifted(CUT_BOX, 6, -9), shifted(BOX, 20, 20)]
        for handed in (as_lists, as_tuples):
            things = [handed(TOOLS[1]), handed((0, 0)), handed((12, -4)), handed(clamps)]
            ahead = repr(things)
            self.assertEqual(over(*things), "high")
            self.assertEqual(over(*things), "high")
            self.assertEqual(repr(things), ahead)

    def test_the_very_clamp_moved(self):
        clamps = as_lists([BOX])
        self.assertEqual(over(TOOLS[0], (0, 0), (2, 2), clamps), "high")
        for corner in clamps[0]:
            corner[0] += 90
        self.assertEqual(over(TOOLS[0], (0, 0), (2, 2), clamps), "low")


if __name__ == "__main__":
    unittest.main()
