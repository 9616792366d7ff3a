import random
import unittest

from plainly import CUT_BOX, L_FORM, NOTCHED, U_FORM, as_lists, as_tuples, mark, quarters_of, shifted
from plainpaths import (ASLANT, BOX_30, ISLANDS, TOOLS, TWO_ROOMS, moved_quarters, plain_centres, plain_reached,
                        random_region, region_of, shuffled)

from millpath.reach import centres, left_by, reached


def times(outline, factor):
    return [(x * factor, y * factor) for x, y in outline]


REGIONS = [
    region_of(CUT_BOX), region_of(times(L_FORM, 2)), region_of(times(U_FORM, 2)), region_of(times(NOTCHED, 2)),
    region_of(TWO_ROOMS), region_of(ASLANT), region_of(shifted(ASLANT, -40, -33)),
    region_of(times(CUT_BOX, 3), [shifted(CUT_BOX, 5, 5)]), region_of(BOX_30, ISLANDS),
]


class Reach(unittest.TestCase):
    def check(self, region, tool):
        told = centres(region, tool)
        self.assertEqual(told, plain_centres(region, tool))
        self.assertIs(type(told), list)
        self.assertTrue(all(type(corner) is tuple for corner in told))
        there = reached(region, tool)
        self.assertEqual(there, sorted(plain_reached(region, tool)))
        self.assertIs(type(there), list)
        self.assertTrue(all(type(quarter) is tuple for quarter in there))
        self.assertEqual(left_by(region, [tool]), sorted(set(region) - set(there)))

    def test_no_quarters(self):
        for tool in TOOLS:
            for region in ([], ()):
                self.assertEqual(centres(region, tool), [])
                self.assertEqual(reached(region, tool), [])
                self.assertEqual(left_by(region, [tool]), [])
        self.assertEqual(left_by([], []), [])

    def test_one_mark_alone(self):
        for tool in TOOLS:
            for corner in ((0, 0), (-7, 4), (250, -280)):
                region = sorted(quarters_of(mark(tool, corner)))
                self.assertEqual(centres(region, tool), [corner])
                self.assertEqual(reached(region, tool), region)
                self.assertEqual(left_by(region, [tool]), [])

    def test_one_quarter_short(self):
        for tool in TOOLS[:3]:
            region = sorted(quarters_of(mark(tool, (5, -5))))
            for at in range(len(region)):
                short = region[:at] + region[at + 1:]
                self.assertEqual(centres(short, tool), [])
                self.assertEqual(reached(short, tool), [])
                self.assertEqual(left_by(short, [tool]), short)

    def test_two_marks_that_lie_apart_or_a_step_on(self):
        tool = TOOLS[1]
        for other in ((1, 0), (1, 1), (0, -1), (9, 2)):
            region = sorted(quarters_of(mark(tool, (0, 0))) | quarters_of(mark(tool, other)))
            self.assertEqual(centres(region, tool), sorted([(0, 0), other]))
            self.assertEqual(reached(region, tool), region)

    def test_forms_islands_and_rooms(self):
        for region in REGIONS:
            for tool in TOOLS:
                self.check(region, tool)

    def test_a_way_between_rooms_that_is_wide_enough_or_not(self):
        region = region_of(TWO_ROOMS)
        self.assertIn((13, 5), centres(region, (2, 1, 1, 1, 1)))
        self.assertNotIn((13, 5), centres(region, (3, 1, 1, 1, 1)))
        told = centres(region, (3, 1, 1, 1, 1))
        self.assertTrue(any(x < 10 for x, y in told) and any(x > 16 for x, y in told))

    def test_thirty_by_thirty(self):
        whole = region_of(BOX_30)
        for tool in TOOLS:
            r = tool[0]
            told = centres(whole, tool)
            self.assertEqual(told, [(x, y) for x in range(r, 31 - r) for y in range(r, 31 - r)])
            leg = r - tool[1]
            self.assertEqual(len(left_by(whole, [tool])), 4 * 2 * leg * leg)

    def test_tools_that_reach_nothing(self):
        region = region_of(CUT_BOX)
        for tool in TOOLS[3:]:
            self.assertEqual(centres(region, tool), [])
            self.assertEqual(reached(region, tool), [])
            self.assertEqual(left_by(region, [tool]), region)

    def test_what_chance_brings(self):
        source = random.Random(91)
        for _ in range(120):
            self.check(random_region(source, 16), source.choice(TOOLS))

    def test_any_order_and_kinds(self):
        source = random.Random(92)
        for region in REGIONS[:6]:
            for tool in TOOLS[:3]:
                wanted = [centres(region, tool), reached(region, tool), left_by(region, [tool])]
                for handed in (region[::-1], shuffled(source, region), as_lists(shuffled(source, region)),
                               as_tuples(shuffled(source, region)), tuple(as_lists(region))):
                    ahead = repr(handed)
                    self.assertEqual(centres(handed, tool), wanted[0])
                    self.assertEqual(reached(handed, list(tool)), wanted[1])
                    left = left_by(handed, (list(tool),))
                    self.assertEqual(left, wanted[2])
                    self.assertTrue(all(type(quarter) is tuple for quarter in left))
                    self.assertEqual(repr(handed), ahead)

    def test_none_to_five_tools_in_any_order(self):
        source = random.Random(93)
        for region in REGIONS:
            for many in range(6):
                tools = source.sample(TOOLS, many)
                gone = set().union(*[plain_reached(region, tool) for tool in tools])
                wanted = sorted(set(region) - gone)
                self.assertEqual(left_by(region, tools), wanted)
                self.assertEqual(left_by(region, as_tuples(tools[::-1])), wanted)
                self.assertEqual(left_by(as_lists(region), as_lists(shuffled(source, tools))), wanted)
        self.assertEqual(left_by(REGIONS[0], [TOOLS[0]] * 2), left_by(REGIONS[0], [TOOLS[0]]))

    def test_moved(self):
        for x, y in ((-300, 270), (100, -300)):
            region = sorted(moved_quarters(REGIONS[4], x, y))
            for tool in TOOLS[:4]:
                told = [(p + x, q + y) for p, q in centres(REGIONS[4], tool)]
                self.assertEqual(centres(region, tool), told)

    def test_what_is_told_is_the_askers_own(self):
        region, tools = as_lists(REGIONS[0]), as_lists(TOOLS[:2])
        for ask in (lambda: centres(region, tools[0]), lambda: reached(region, tools[0]),
                    lambda: left_by(region, tools), lambda: left_by(region, [])):
            told = ask()
            again = list(told)
            self.assertIsNot(told, region)
            told.append("more")
            self.assertEqual(ask(), again)
            told.clear()
            self.assertEqual(ask(), again)
        self.assertEqual((region, tools), (as_lists(REGIONS[0]), as_lists(TOOLS[:2])))

    def test_the_very_list_with_other_quarters_in_it(self):
        tool = [2, 1, 1, 1, 1]
        region = as_lists(sorted(quarters_of(mark(tool, (0, 0)))))
        last = region.pop()
        self.assertEqual(centres(region, tool), [])
        self.assertEqual(len(left_by(region, [tool])), len(region))
        region.append(last)
        self.assertEqual(centres(region, tool), [(0, 0)])
        self.assertEqual(left_by(region, [tool]), [])
        region[0][0] -= 50
        self.assertEqual(centres(region, tool), [])
        self.assertEqual(reached(region, tool), [])
        region[0][0] += 50
        tool[0] = 3
        self.assertEqual(centres(region, tool), [])


if __name__ == "__main__":
    unittest.main()
