import random
import unittest

from plainly import CUT_BOX, NOTCHED, TRIANGLE, U_FORM, as_lists, as_tuples, mark, quarters_of, shifted
from plainpaths import (ASLANT, BOX_30, ISLANDS, TWO_ROOMS, lists_in, marks_laid, plain_centres, plain_cleared,
                        played, random_region, region_of, shuffled)

from millpath.areas import cut_area
from millpath.cleared import cleared
from millpath.maker import Maker
from millpath.reach import left_by, reached
from millpath.tools import half_of

TOOLS = [(4, 2, 2, 2, 3), (2, 1, 1, 1, 1), (3, 1, 4, 2, 2), (6, 5, 9, 9, 4), (3, 2, 1, 3, 5)]
CLAMPS = [[(4, 4), (7, 4), (7, 6), (4, 6)], shifted(TRIANGLE, 12, 1), [(20, 5), (22, 7), (20, 9), (18, 7)]]
REGIONS = [
    region_of([(0, 0), (12, 0), (12, 10), (0, 10)]), region_of(CUT_BOX), region_of(TWO_ROOMS), region_of(ASLANT),
    region_of([(2 * x, 2 * y) for x, y in U_FORM]), region_of([(2 * x, 2 * y) for x, y in NOTCHED]),
    region_of([(3 * x, 3 * y) for x, y in CUT_BOX], [shifted(CUT_BOX, 6, 6)]), region_of(shifted(ASLANT, -35, -28)),
]
SIX_CLAMPS = CLAMPS + [shifted(CUT_BOX, 24, 24), [(-3, 14), (2, 14), (2, 17), (-3, 17)], shifted(TRIANGLE, 15, 12)]


def free_of(region, clamps):
    return sorted(set(region) - set().union(*[region_of(clamp) for clamp in clamps]))


def left_plainly(region, tools, clamps):
    """What no mark of the tools that lies in the free part holds, marks laid one by one."""
    free, gone = free_of(region, clamps), set()
    for tool in tools:
        for corner in plain_centres(free, tool):
            gone |= marks_laid(tool, [corner])
    return sorted(set(region) - gone)


class Cleared(unittest.TestCase):
    def check(self, region, deep, tools, clamps, plan):
        told = cleared(region, deep, tools, clamps, plan)
        self.assertIs(type(told), tuple)
        program, left = told
        self.assertTrue(type(program) is list and type(left) is list)
        self.assertTrue(all(type(quarter) is tuple for quarter in left))
        self.assertTrue(all(type(order) is tuple for order in program))
        self.assertEqual(left, left_plainly(region, [tools[n] for n in plan[0]], clamps))
        return program, left

    def check_played(self, region, deep, tools, clamps, plan):
        program, left = self.check(region, deep, tools, clamps, plan)
        away = played(program, tools, clamps, region, deep)
        self.assertEqual(away, [set(region) - set(left)] * deep)
        self.assertTrue(all(cut_area(program, tools, layer) == len(region) - len(left) for layer in range(deep)))
        self.assertEqual(cut_area(program, tools, deep), 0)

    def test_one_tool_word_by_word(self):
        region = sorted(quarters_of(mark(TOOLS[1], (5, 3))) | {(20, 20, 1), (3, 1, 3)})
        self.assertEqual(cleared(region, 2, TOOLS, [], ([1], 1, 0, 0)), ([
            ("take", 1), ("over", "low", 5, 3), ("cut", ((5, 3, 0), (5, 3, 1))),
            ("over", "low", 5, 3), ("cut", ((5, 3, 1), (5, 3, 2)))], [(3, 1, 3), (20, 20, 1)]))

    def test_no_quarters_and_tools_that_reach_nothing(self):
        self.assertEqual(cleared([], 3, TOOLS, CLAMPS, ([0, 1], 1, 1, 0)), ([], []))
        self.assertEqual(cleared(REGIONS[1], 3, TOOLS, CLAMPS, ([3], 5, 5, 0)), ([], REGIONS[1]))
        program, left = self.check(REGIONS[0], 2, TOOLS, [], ([3, 1], 1, 1, 0))
        self.assertEqual(program[0], ("take", 1))
        program, left = self.check(REGIONS[0], 2, TOOLS, [], ([1, 3], 1, 1, 0))
        self.assertEqual([order for order in program if order[0] == "take"], [("take", 1)])

    def test_under_clamps_all_is_left(self):
        whole = [(-50, -50), (60, -50), (60, 60), (-50, 60)]
        for region in REGIONS:
            self.assertEqual(cleared(region, 2, TOOLS, [whole], ([1, 0], 1, 0, 0)), ([], region))
            program, left = self.check(region, 2, TOOLS, CLAMPS, ([1], 1, 0, 0))
            held = set().union(*[region_of(clamp) for clamp in CLAMPS])
            self.assertLessEqual(held & set(region), set(left))

    def test_the_program_is_that_of_one_maker(self):
        for region in REGIONS:
            for numbers in ([0], [0, 1], [2, 4, 1], [3, 0, 2, 1], [4, 3, 2, 1, 0]):
                plan = (numbers, 1, 1, 6)
                maker, gone = Maker(TOOLS, CLAMPS), set()
                maker.clear(region, 2, numbers[0], 1, 1, 6)
                for at, n in enumerate(numbers[1:]):
                    gone |= set(reached(free_of(region, CLAMPS), TOOLS[numbers[at]]))
                    maker.rest(region, sorted(gone), 2, n, 6)
                self.assertEqual(cleared(region, 2, TOOLS, CLAMPS, plan)[0], maker.program())

    def test_against_plain_orders(self):
        source = random.Random(151)
        for region in REGIONS:
            for _ in range(3):
                numbers = source.sample(range(5), source.randint(1, 5))
                plan = (numbers, source.randint(1, 3), source.randint(0, 3), source.randrange(8))
                clamps, deep = CLAMPS[:source.randint(0, 3)], source.randint(1, 6)
                self.assertEqual(self.check(region, deep, TOOLS, clamps, plan),
                                 plain_cleared(region, deep, TOOLS, clamps, plan))

    def test_played_with_each_width_and_first(self):
        for region in REGIONS:
            for numbers in ([1], [0, 1], [2, 1], [4, 2, 1]):
                half = half_of(TOOLS[numbers[0]])
                for width in range(1, half + 1):
                    self.check_played(region, 2, TOOLS, [], (numbers, width, width - 1, 5))
                    self.check_played(region, 3, TOOLS, CLAMPS, (numbers, width, half + 1 - width, 2))

    def test_played_by_chance(self):
        source = random.Random(152)
        for _ in range(80):
            region = random_region(source, 18)
            clamps = [shifted(source.choice(SIX_CLAMPS), source.randint(-9, 5), source.randint(-5, 5))
                      for _ in range(source.randint(0, 3))]
            numbers = source.sample(range(5), source.randint(1, 5))
            half = half_of(TOOLS[numbers[0]])
            plan = (numbers, source.randint(1, half), source.randint(0, half), source.randrange(8))
            self.check_played(region, source.randint(1, 6), TOOLS, clamps, plan)

    def test_thirty_by_thirty_five_tools_six_clamps(self):
        region = region_of(BOX_30, ISLANDS)
        for numbers in ([3, 0, 4, 2, 1], [1, 2, 4, 0, 3]):
            self.check_played(region, 6, TOOLS, SIX_CLAMPS, (numbers, 1, 1, 7))

    def test_without_clamps_what_is_left_is_left_by(self):
        for region in REGIONS:
            for numbers in ([0], [1, 0], [2, 3, 4]):
                left = cleared(region, 1, TOOLS, [], (numbers, 1, 0, 0))[1]
                self.assertEqual(left, left_by(region, [TOOLS[n] for n in numbers]))

    def test_the_first_tool_clears_also_where_it_leaves_much(self):
        # Wider rings than are sure leave quarters standing; what is told as left doesn't count them.
        region = region_of(BOX_30)
        program, left = self.check(region, 1, TOOLS, [], ([1], 9, 0, 0))
        self.assertLess(cut_area(program, TOOLS, 0), len(region) - len(left))

    def test_kinds_and_orders_of_what_is_handed_in(self):
        source = random.Random(153)
        wanted = cleared(REGIONS[0], 2, TOOLS, CLAMPS, ([0, 1], 2, 1, 3))
        for kind in (as_lists, as_tuples):
            things = [kind(shuffled(source, REGIONS[0])), 2, kind(TOOLS), kind(CLAMPS), kind(([0, 1], 2, 1, 3))]
            ahead = repr(things)
            told = cleared(*things)
            self.assertEqual(told, wanted)
            self.assertTrue(all(type(quarter) is tuple for quarter in told[1]))
            self.assertEqual(repr(things), ahead)

    def test_what_is_told_is_the_askers_own(self):
        things = as_lists([REGIONS[0], 2, TOOLS, CLAMPS, [[0, 1], 2, 1, 3]])
        told = cleared(*things)
        again = as_lists(told)
        self.assertEqual(len({id(part) for part in lists_in(told)}), 2)
        told[0].reverse()
        told[1].append("more")
        self.assertEqual(as_lists(cleared(*things)), again)
        things[0].pop()
        things[2][0][0] = 5
        things[4][0].pop()
        self.assertNotEqual(as_lists(cleared(*things)), again)
        self.assertEqual(cleared(*things), cleared(*as_tuples(things)))


if __name__ == "__main__":
    unittest.main()
