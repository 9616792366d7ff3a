import copy
import functools
import random
import unittest

from plainjobs import random_thing, spoiled
from plainly import CUT_BOX, L_FORM, ODD_THINGS, as_lists, as_tuples, mark, quarters_of, shifted
from plainpaths import (ASLANT, BOX_30, ISLANDS, TOOLS, TWO_ROOMS, moved_quarters, plain_reached, random_region,
                        region_of, shuffled)

from millpath.lefts import shows_left, why_left
from millpath.reach import left_by

SMALL = (2, 1, 1, 1, 1)
ROOM = region_of([(0, 0), (7, 0), (7, 6), (0, 6)])
PARTS = [None, True, False, 0, 1, 2, 3, -1, 7, -300, 10 ** 30, "", "0", "left", (), []]


def laid_marks(tools, quarter):
    """All (number of the tool, corner, mark's quarters) whose marks hold a quarter, every near corner looked at."""
    return marks_about(as_tuples(tools), tuple(quarter))


@functools.lru_cache(maxsize=None)
def near_of(tool):
    return frozenset(quarters_of(mark(tool, (0, 0))))


@functools.lru_cache(maxsize=8)
def marks_about(tools, quarter):
    told = []
    for number, tool in enumerate(tools):
        near = near_of(tool)
        for x in range(quarter[0] - 7, quarter[0] + 8):
            for y in range(quarter[1] - 7, quarter[1] + 8):
                if (quarter[0] - x, quarter[1] - y, quarter[2]) in near:
                    told.append((number, (x, y), moved_quarters(near, x, y)))
    return told


def plain_why(region, tools, quarter):
    there = set(region)
    told = [(number, corner, held - there) for number, corner, held in laid_marks(tools, quarter)]
    if not all(missing for number, corner, missing in told):
        return None
    return [(number, corner, min(missing)) for number, corner, missing in told]


def plain_shows(region, tools, quarter, paper):
    """Whether a thing is such a paper, by the document's words."""
    if not isinstance(paper, (list, tuple)):
        return False
    wanted = {(number, corner): held for number, corner, held in laid_marks(tools, quarter)}
    for row in paper:
        if not isinstance(row, (list, tuple)) or len(row) != 3 or type(row[0]) is not int:
            return False
        for part, many in ((row[1], 2), (row[2], 3)):
            if not isinstance(part, (list, tuple)) or len(part) != many or any(type(n) is not int for n in part):
                return False
        if tuple(row[2]) not in wanted.pop((row[0], tuple(row[1])), ()) or tuple(row[2]) in region:
            return False
    return not wanted


class WhyLeft(unittest.TestCase):
    def check(self, region, tools, quarter):
        told = why_left(region, tools, quarter)
        self.assertEqual(told, plain_why(region, tools, quarter))
        self.assertEqual(told is None, tuple(quarter) not in left_by(region, tools))
        if told is not None:
            self.assertIs(type(told), list)
            self.assertEqual(told, [as_tuples(row) for row in told])
            self.assertTrue(shows_left(region, tools, quarter, told))
        return told

    def test_every_quarter_of_a_room(self):
        for quarter in ROOM:
            self.check(ROOM, [SMALL], quarter)
            self.check(ROOM, [(3, 2, 1, 1, 1), SMALL, (4, 1, 2, 3, 4)], quarter)
        self.assertIsNone(why_left(ROOM, [SMALL], (3, 3, 0)))
        self.assertEqual(why_left(ROOM, [SMALL], (0, 0, 2))[:2], [(0, (-1, -1), (-3, -3, 0)), (0, (-1, 0), (-3, -2, 0))])

    def test_no_tools(self):
        for quarter in (ROOM[0], ROOM[70], list(ROOM[-1])):
            for tools in ([], ()):
                told = why_left(ROOM, tools, quarter)
                self.assertEqual(told, [])
                self.assertIs(type(told), list)

    def test_several_tools_some_of_which_reach_nothing(self):
        far = (6, 5, 1, 1, 1)
        told = self.check(ROOM, [far, SMALL, far], (0, 0, 2))
        self.assertEqual(sorted({row[0] for row in told}), [0, 1, 2])
        self.assertEqual([row[1:] for row in told if row[0] == 0], [row[1:] for row in told if row[0] == 2])
        self.assertIsNone(self.check(ROOM, [far, SMALL, far], (3, 3, 0)))
        self.assertIsNone(self.check(ROOM, [SMALL, far], (3, 3, 0)))
        self.assertIsNotNone(self.check(ROOM, [far, far], (3, 3, 0)))

    def test_corners_whose_cells_lie_beyond_the_region(self):
        region = sorted(quarters_of(mark(SMALL, (5, 5))))[1:]
        told = self.check(region, [SMALL], region[0])
        there = {quarter[:2] for quarter in region}
        self.assertTrue(any(corner not in there for number, corner, quarter in told))
        self.assertIn((0, (5, 5), min(quarters_of(mark(SMALL, (5, 5))))), told)
        alone = [(-200, 150, 2)]
        self.assertEqual(len(self.check(alone, [SMALL], alone[0])), len(quarters_of(mark(SMALL, (0, 0)))) // 4)

    def test_a_gap_in_the_mark_is_the_one_told(self):
        whole = quarters_of(mark(SMALL, (0, 0)))
        for gap in sorted(whole)[1:]:
            region = sorted(whole - {gap})
            told = self.check(region, [SMALL], region[0])
            self.assertIn((0, (0, 0), gap), told)

    def test_forms_islands_and_rooms(self):
        source = random.Random(121)
        regions = [region_of(TWO_ROOMS), region_of(ASLANT), region_of(BOX_30, ISLANDS), region_of(CUT_BOX),
                   region_of(shifted(L_FORM, -290, 280))]
        for region in regions:
            for _ in range(4):
                tools = source.sample(TOOLS, source.randint(1, 3))
                left = left_by(region, tools)
                for quarter in source.sample(left, min(3, len(left))) + source.sample(region, 2):
                    self.check(region, tools, quarter)

    def test_what_chance_brings(self):
        source = random.Random(122)
        for _ in range(40):
            region = random_region(source, 14)
            tools = [source.choice(TOOLS) for _ in range(source.randint(0, 3))]
            for quarter in source.sample(region, 4):
                self.check(region, tools, quarter)

    def test_any_order_and_kinds(self):
        source = random.Random(123)
        tools = [SMALL, (3, 1, 4, 2, 3)]
        for quarter in (ROOM[0], ROOM[60], ROOM[-1]):
            wanted = why_left(ROOM, tools, quarter)
            for handed in (ROOM[::-1], shuffled(source, ROOM), as_lists(shuffled(source, ROOM)), as_tuples(ROOM)):
                ahead = repr(handed)
                told = why_left(handed, as_lists(tools), list(quarter))
                self.assertEqual(told, wanted)
                self.assertEqual(why_left(handed, as_tuples(tools), quarter), wanted)
                self.assertEqual(repr(handed), ahead)
                for number, corner, missing in told or []:
                    self.assertEqual([type(corner), type(missing)], [tuple] * 2)

    def test_what_is_told_is_the_askers_own(self):
        region, tools, quarter = as_lists(ROOM), [list(SMALL)], [0, 0, 2]
        told = why_left(region, tools, quarter)
        ahead = list(told)
        told.append("more")
        self.assertEqual(why_left(region, tools, quarter), ahead)
        region[0][0] -= 50
        tools[0][0] = 5
        self.assertEqual(told[:-1], ahead)
        self.assertEqual(why_left(ROOM, [SMALL], (0, 0, 2)), ahead)


class ShowsLeft(unittest.TestCase):
    def setUp(self):
        self.tools = [SMALL, (6, 5, 1, 1, 1), (3, 2, 1, 3, 2)]
        self.quarter = (0, 0, 2)
        self.paper = why_left(ROOM, self.tools, self.quarter)

    def shown(self, paper):
        ahead = copy.deepcopy(paper)
        told = shows_left(ROOM, self.tools, self.quarter, paper)
        self.assertIs(told, plain_shows(ROOM, self.tools, self.quarter, paper))
        self.assertEqual(paper, ahead)
        return told

    def test_the_paper_in_any_order_and_kinds(self):
        source = random.Random(124)
        for paper in (self.paper, self.paper[::-1], shuffled(source, self.paper), as_lists(self.paper),
                      as_tuples(self.paper), tuple(as_lists(shuffled(source, self.paper)))):
            self.assertTrue(self.shown(paper))
            self.assertIs(shows_left(as_lists(ROOM[::-1]), as_lists(self.tools), [0, 0, 2], paper), True)

    def test_any_quarter_of_the_mark_that_is_not_in_the_region(self):
        self.tools = [SMALL, (3, 2, 1, 3, 2)]
        self.paper = why_left(ROOM, self.tools, self.quarter)
        marks = {(number, corner): held for number, corner, held in laid_marks(self.tools, self.quarter)}
        for at in (0, 5, 20, len(self.paper) // 2, len(self.paper) - 1):
            number, corner, missing = self.paper[at]
            held = marks[(number, corner)]
            beyond = moved_quarters(held, 13, 0)
            for quarter in sorted(held | beyond):
                paper = self.paper[:at] + [(number, corner, quarter)] + self.paper[at + 1:]
                self.assertIs(self.shown(paper), quarter in held and quarter not in ROOM)

    def test_rows_short_double_and_more(self):
        for at in (0, 7, len(self.paper) - 1):
            self.assertFalse(self.shown(self.paper[:at] + self.paper[at + 1:]))
            self.assertFalse(self.shown(self.paper + [self.paper[at]]))
            for other in (self.paper[at - 1], self.paper[at - 2]):
                self.assertFalse(self.shown(self.paper[:at] + [other] + self.paper[at + 1:]))
        number, corner, missing = self.paper[0]
        for row in ((number, (50, 50), (50, 50, 0)), (number, (corner[0] - 1, corner[1]), missing),
                    (3, corner, missing), (-1, corner, missing), (-3, corner, missing)):
            self.assertFalse(self.shown(self.paper + [row]))
            self.assertFalse(self.shown([row] + self.paper[1:]))
        self.assertFalse(self.shown([]))
        self.assertFalse(self.shown(()))

    def test_numbers_below_nought_name_no_tool(self):
        many = len(self.tools)
        for less in (1, many, 2 * many):
            self.assertFalse(self.shown([(number - less, corner, missing) for number, corner, missing in self.paper]))

    def test_true_and_false_are_no_numbers(self):
        rows = [(0, (0, 1)), (0, (1, 0)), (1, (1, 1)), (0, (1, 1))]
        self.assertLessEqual(set(rows), {row[:2] for row in self.paper})
        for at, row in enumerate(self.paper):
            if row[:2] not in rows:
                continue
            number, corner, missing = row
            for other in ((bool(number), corner, missing),
                          (number, (bool(corner[0]), corner[1]), missing),
                          (number, (corner[0], bool(corner[1])), missing)):
                self.assertEqual(row, other)
                self.assertFalse(self.shown(self.paper[:at] + [other] + self.paper[at + 1:]))
        found = [at for at, row in enumerate(self.paper) if row[2][2] in (0, 1)]
        self.assertTrue(found)
        for at in found[:5]:
            number, corner, (x, y, side) = self.paper[at]
            other = (number, corner, (x, y, bool(side)))
            self.assertFalse(self.shown(self.paper[:at] + [other] + self.paper[at + 1:]))

    def test_rows_corners_and_quarters_of_other_lengths_and_kinds(self):
        number, corner, missing = self.paper[3]
        for row in ((number, corner), (number, corner, missing, missing), (number, corner + (0,), missing),
                    (number, corner[:1], missing), (number, corner, missing[:2]), (number, corner, missing + (0,)),
                    (number, corner, missing[:2] + (4,)), (number, corner, missing[:2] + (-1,)),
                    (str(number), corner, missing), (None, corner, missing), ((number,), corner, missing),
                    (number, None, missing), (number, corner, None), (number, 7, missing), (number, corner, 7),
                    (number, "00", missing), (number, corner, "000"), (number, ("0", "0"), missing),
                    (number, [[], []], missing), (number, corner, [[], [], []]), (corner, missing, number),
                    (10 ** 40, corner, missing), (number, (10 ** 40, 0), missing), (number, corner, (10 ** 40, 0, 0)),
                    None, True, 0, "", "abc", [], (), [[]], [[], [], []]):
            self.assertFalse(self.shown(self.paper[:3] + [row] + self.paper[4:]))
            self.assertFalse(self.shown([row]))
            self.assertFalse(self.shown(self.paper + [row]))

    def test_a_quarter_that_some_tool_reaches(self):
        quarter = (3, 3, 0)
        rows = [(number, corner, min(held - set(ROOM), default=min(held)))
                for number, corner, held in laid_marks(self.tools, quarter)]
        free = [row for row in rows if row[2] not in ROOM]
        for paper in (rows, free, self.paper, [], ()):
            self.assertIs(shows_left(ROOM, self.tools, quarter, paper), False)

    def test_no_tools(self):
        for tools in ([], ()):
            for paper in ([], ()):
                self.assertIs(shows_left(ROOM, tools, self.quarter, paper), True)
            for paper in (self.paper, self.paper[:1], [[]], [()], None, False, 0, "", [None]):
                self.assertIs(shows_left(ROOM, tools, self.quarter, paper), False)

    def test_the_paper_of_another_quarter_or_of_other_tools(self):
        for other in ((0, 0, 3), (0, 0, 0), (6, 5, 0), (0, 5, 2)):
            self.assertFalse(self.shown(why_left(ROOM, self.tools, other) or []))
        self.assertFalse(self.shown(why_left(ROOM, self.tools[:2], self.quarter)))
        self.assertFalse(self.shown(why_left(ROOM, self.tools[::-1], self.quarter)))

    def test_odd_things(self):
        for thing in ODD_THINGS:
            self.assertIs(shows_left(ROOM, self.tools, self.quarter, thing), False)
            self.assertIs(shows_left(ROOM, self.tools, self.quarter, [thing]), False)

    def test_things_of_any_shape(self):
        source = random.Random(125)
        for _ in range(1500):
            self.shown(random_thing(source, 6, PARTS))

    def test_papers_spoiled_by_chance(self):
        source = random.Random(126)
        self.tools = [SMALL]
        for quarter in ((0, 0, 2), (6, 5, 1)):
            self.quarter = quarter
            paper = why_left(ROOM, self.tools, quarter)
            outcomes = {self.shown(spoiled(source, paper, PARTS + [paper[0], paper[-1]])) for _ in range(800)}
            self.assertIn(False, outcomes)

    def test_the_greatest_sizes(self):
        region = region_of([(0, 0), (27, 0), (27, 27), (0, 27)])
        tools = [(6, 1, 1, 1, 1)] * 5
        paper = why_left(region, tools, (26, 26, 0))
        self.assertEqual(len(paper), 5 * len(quarters_of(mark(tools[0], (0, 0)))) // 4)
        self.assertIs(shows_left(region, tools, (26, 26, 0), paper), True)
        self.assertIs(shows_left(region, tools, (26, 26, 0), paper[1:]), False)


if __name__ == "__main__":
    unittest.main()
