import random
import unittest

from plainly import CUT_BOX, NOTCHED, TRIANGLE, U_FORM, as_lists, as_tuples, mark, quarters_of, shifted
from plainpaths import (ASLANT, BOX_30, ISLANDS, TWO_ROOMS, PlainMaker, lie, marks_laid, plain_reached, played,
                        random_region, region_of, shuffled, step_between)

from millpath.maker import Maker
from millpath.reach import centres, reached
from millpath.rings import depths_in, rings
from millpath.runs import runs
from millpath.tools import half_of
from millpath.waysin import way_in

TOOLS = [(2, 1, 1, 1, 1), (3, 1, 4, 2, 3), (3, 2, 1, 3, 2), (4, 3, 2, 9, 9), (6, 5, 9, 4, 4)]
CLAMPS = [[(4, 4), (7, 4), (7, 6), (4, 6)], shifted(TRIANGLE, 12, 1), [(20, 5), (22, 7), (20, 9), (18, 7)]]
BOX = region_of([(0, 0), (12, 0), (12, 10), (0, 10)])
REGIONS = [
    BOX, region_of(CUT_BOX), region_of(TWO_ROOMS), region_of(ASLANT), region_of(shifted(ASLANT, -30, 5)),
    region_of([(2 * x, 2 * y) for x, y in U_FORM]), region_of([(2 * x, 2 * y) for x, y in NOTCHED]),
    region_of([(3 * x, 3 * y) for x, y in CUT_BOX], [shifted(CUT_BOX, 6, 6)]),
]


def made(tools, clamps, calls):
    """The program behind some calls, each a tuple of a name and what is handed in."""
    maker = Maker(tools, clamps)
    for name, *things in calls:
        (maker.clear if name == "clear" else maker.rest)(*things)
    return maker.program()


def plainly_made(tools, clamps, calls):
    maker = PlainMaker(tools, clamps)
    for name, *things in calls:
        (maker.clear if name == "clear" else maker.rest)(*things)
    return maker.orders


def path_of(places, slope):
    """The path along which a cut goes: the one whose way in and other corners are its places."""
    for at in range(len(places)):
        path, z = [place[:2] for place in places[at:]], places[-1][2]
        if way_in(path, places[0][2], z, slope) + [corner + (z,) for corner in path[1:]] == list(places):
            return path
    raise AssertionError(places)


def places_in(program):
    return [place for order in program if order[0] == "cut" for place in order[1]]


class Orders(unittest.TestCase):
    def check(self, calls, tools=TOOLS, clamps=()):
        told = made(tools, clamps, calls)
        self.assertEqual(told, plainly_made(tools, clamps, calls))
        self.check_form(told)
        return told

    def check_form(self, told):
        self.assertIs(type(told), list)
        for order in told:
            self.assertIs(type(order), tuple)
            if order[0] == "cut":
                self.assertEqual(len(order), 2)
                self.assertIs(type(order[1]), tuple)
                self.assertTrue(all(type(place) is tuple for place in order[1]))
            else:
                self.assertEqual(len(order), 2 if order[0] == "take" else 4)


class Clear(Orders):
    def test_nothing_at_first(self):
        self.assertEqual(Maker(TOOLS, CLAMPS).program(), [])
        self.assertEqual(Maker((), ()).program(), [])

    def test_no_order_without_centres(self):
        self.assertEqual(self.check([("clear", [], 3, 0, 1, 0, 0)]), [])
        self.assertEqual(self.check([("clear", REGIONS[1], 3, 4, 1, 1, 0)]), [])
        whole = [[(-9, -9), (90, -9), (90, 90), (-9, 90)]]
        self.assertEqual(made(TOOLS, whole, [("clear", BOX, 2, 0, 1, 0, 0)]), [])

    def test_one_centre_word_by_word(self):
        region = sorted(quarters_of(mark(TOOLS[0], (5, 3))))
        self.assertEqual(self.check([("clear", region, 2, 0, 1, 0, 0)]), [
            ("take", 0), ("over", "low", 5, 3), ("cut", ((5, 3, 0), (5, 3, 1))),
            ("over", "low", 5, 3), ("cut", ((5, 3, 1), (5, 3, 2)))])
        self.assertEqual(self.check([("clear", region, 2, 0, 1, 1, 0)]), made(
            TOOLS, [], [("clear", region, 2, 0, 1, 0, 0)]))

    def test_a_line_of_centres_word_by_word(self):
        region = region_of([(0, 0), (6, 0), (6, 4), (0, 4)])
        self.assertEqual(self.check([("clear", region, 1, 0, 1, 0, 0)]), [
            ("take", 0), ("over", "low", 2, 2), ("cut", ((2, 2, 0), (3, 2, 1), (2, 2, 1), (3, 2, 1), (4, 2, 1)))])
        # The round of depth 0 alone, against the grain as it lies: turned about.
        self.assertEqual(self.check([("clear", region, 1, 0, 1, 1, 4)]), [
            ("take", 0), ("over", "low", 4, 2), ("cut", ((4, 2, 0), (3, 2, 1), (4, 2, 1), (3, 2, 1), (2, 2, 1)))])

    def test_bites_that_do_and_dont_divide_deep(self):
        region = sorted(quarters_of(mark((2, 1, 1, 1, 1), (0, 0))))
        for bite in range(1, 10):
            for deep in range(1, 7):
                told = self.check([("clear", region, deep, 0, 1, 0, 0)], [(2, 1, 1, bite, 1)])
                depths = [order[1][-1][2] for order in told if order[0] == "cut"]
                self.assertEqual(depths, sorted({min(deep, bite * at) for at in range(1, 7)}))
                self.assertEqual([order[1][0][2] for order in told if order[0] == "cut"], [0] + depths[:-1])

    def test_forms_widths_firsts_and_grains(self):
        source = random.Random(141)
        for region in REGIONS:
            for n in range(4):
                for _ in range(4):
                    self.check([("clear", region, source.randint(1, 6), n, source.randint(1, 3), source.randint(0, 3),
                                 source.randrange(8))])

    def test_each_grain_of_the_round(self):
        for grain in range(8):
            told = self.check([("clear", REGIONS[7], 2, 0, 1, 2, grain)])
            rings_of = rings(centres(REGIONS[7], TOOLS[0]), 2, 1)
            many = sum(len(runs(ring)) for ring in rings_of)
            cuts = [order[1] for order in told if order[0] == "cut"]
            half = len(cuts) // 2
            for places in cuts[many:half] + cuts[half + many:]:
                path = path_of(places, TOOLS[0][4])
                for one, other in zip(path, path[1:]):
                    self.assertNotEqual(lie(step_between(one, other), grain), "against")

    def test_the_rings_come_ahead_of_the_round(self):
        points = centres(BOX, TOOLS[0])
        depths = dict(depths_in(points))
        told = self.check([("clear", BOX, 1, 0, 2, 1, 3)])
        seen = [depths[order[1][0][:2]] for order in told if order[0] == "cut"]
        self.assertEqual(seen[:2], [1, 3])
        self.assertEqual(set(seen[2:]), {0})
        self.assertEqual([depths[order[1][0][:2]] for order in self.check([("clear", BOX, 1, 0, 3, 0, 3)])
                          if order[0] == "cut"], [0, 3])

    def test_clamps_on_pockets(self):
        source = random.Random(142)
        seen = set()
        for region in REGIONS:
            for n in range(3):
                told = self.check([("clear", region, 2, n, source.randint(1, 2), source.randint(0, 2), 5)], TOOLS, CLAMPS)
                seen |= {order[1] for order in told if order[0] == "over"}
                corners = {place[:2] for place in places_in(told)}
                held = set().union(*[region_of(clamp) for clamp in CLAMPS])
                self.assertFalse(marks_laid(TOOLS[n], corners) & held)
        self.assertEqual(seen, {"low", "high"})

    def test_the_first_over_is_from_nought(self):
        region = region_of(shifted([(0, 0), (8, 0), (8, 8), (0, 8)], 20, 0))
        for clamp, how in (([(9, 0), (11, 0), (11, 4), (9, 4)], "high"), ([(9, 6), (11, 6), (11, 9), (9, 9)], "low")):
            told = self.check([("clear", region, 1, 0, 1, 0, 0)], TOOLS, [clamp])
            self.assertEqual(told[1], ("over", how, 22, 2))

    def test_what_chance_brings(self):
        source = random.Random(143)
        for _ in range(80):
            clamps = [shifted(source.choice(CLAMPS), source.randint(-9, 3), source.randint(-5, 9))
                      for _ in range(source.randint(0, 2))]
            self.check([("clear", shuffled(source, random_region(source, 15)), source.randint(1, 6), source.randint(0, 3),
                         source.randint(1, 3), source.randint(0, 3), source.randrange(8))], TOOLS, clamps)


class Rest(Orders):
    def test_nothing_gone(self):
        for region in REGIONS:
            for n in range(3):
                told = self.check([("rest", region, [], 3, n, 2)])
                self.assertEqual(marks_laid(TOOLS[n], {place[:2] for place in places_in(told)}),
                                 plain_reached(region, TOOLS[n]))

    def test_all_gone_or_all_that_is_reached(self):
        for region in REGIONS:
            for n in range(5):
                self.assertEqual(self.check([("rest", region, region, 3, n, 2)]), [])
                self.assertEqual(self.check([("rest", region, reached(region, TOOLS[n]), 3, n, 2)]), [])
        self.assertEqual(self.check([("rest", REGIONS[1], [], 3, 4, 2)]), [])
        self.assertEqual(self.check([("rest", [], [], 3, 0, 2)]), [])

    def test_part_gone(self):
        for region in REGIONS:
            for grain in range(8):
                told = self.check([("rest", region, reached(region, TOOLS[1]), 2, 0, grain)])
                for x, y, z in places_in(told):
                    self.assertFalse(marks_laid(TOOLS[0], [(x, y)]) <= plain_reached(region, TOOLS[1]))

    def test_one_quarter_not_gone(self):
        for quarter in ((0, 0, 2), (2, 2, 0), (6, 5, 1), (11, 9, 3)):
            told = self.check([("rest", BOX, [other for other in BOX if other != quarter], 1, 0, 0)])
            wanted = {corner for corner in centres(BOX, TOOLS[0]) if quarter in marks_laid(TOOLS[0], [corner])}
            self.assertEqual({place[:2] for place in places_in(told)}, wanted)
            self.assertTrue(bool(told) == bool(wanted))

    def test_clamps(self):
        for region in REGIONS:
            for n in range(3):
                self.check([("rest", region, region[::3], 2, n, 6)], TOOLS, CLAMPS)

    def test_what_chance_brings(self):
        source = random.Random(144)
        for _ in range(80):
            region = random_region(source, 15)
            gone = [quarter for quarter in region if source.random() < source.choice([0.5, 0.99, 1])]
            if source.random() < 0.5:
                gone = sorted(plain_reached(region, source.choice(TOOLS)))
            self.check([("rest", shuffled(source, region), shuffled(source, gone), source.randint(1, 6),
                         source.randint(0, 3), source.randrange(8))], TOOLS, CLAMPS[:source.randint(0, 3)])


class SeveralCalls(Orders):
    def test_takes_only_where_another_tool_was_taken_last(self):
        calls = [("clear", BOX, 1, 1, 1, 0, 0), ("clear", REGIONS[1], 1, 1, 1, 0, 0), ("rest", BOX, [], 1, 0, 0),
                 ("clear", BOX, 2, 0, 1, 1, 0), ("rest", BOX, BOX, 2, 1, 0), ("rest", BOX, [], 2, 0, 0),
                 ("clear", BOX, 1, 1, 1, 0, 0)]
        told = self.check(calls)
        self.assertEqual([order[1] for order in told if order[0] == "take"], [1, 0, 1])

    def test_a_call_without_orders_leaves_what_was_taken(self):
        told = self.check([("clear", BOX, 1, 0, 1, 0, 0), ("clear", BOX, 1, 4, 1, 0, 0), ("rest", BOX, BOX, 1, 1, 0),
                           ("clear", BOX, 1, 0, 1, 0, 0)])
        self.assertEqual(told.count(("take", 0)), 1)
        self.assertEqual([order for order in told if order[0] == "take"], [("take", 0)])

    def test_overs_are_ordered_where_the_tool_is_already(self):
        region = sorted(quarters_of(mark(TOOLS[0], (0, 0))))
        told = self.check([("clear", region, 1, 0, 1, 0, 0), ("clear", region, 1, 0, 1, 0, 0)])
        self.assertEqual(told, [("take", 0)] + [("over", "low", 0, 0), ("cut", ((0, 0, 0), (0, 0, 1)))] * 2)

    def test_overs_from_where_the_tool_was_last(self):
        # A line's run ends at its far end: the ways to the other pocket from there and from its begin differ.
        line = region_of([(0, 0), (9, 0), (9, 4), (0, 4)])
        other = region_of(shifted([(0, 0), (4, 0), (4, 4), (0, 4)], 0, 10))
        for clamp, how in (([(5, 5), (6, 5), (6, 6), (5, 6)], "high"), ([(0, 4), (1, 4), (1, 5), (0, 5)], "low")):
            told = self.check([("clear", line, 1, 0, 1, 0, 0), ("clear", other, 1, 0, 1, 0, 0)], TOOLS, [clamp])
            self.assertEqual(told[3], ("over", how, 2, 12))

    def test_what_chance_brings(self):
        source = random.Random(145)
        for _ in range(40):
            calls = []
            for _ in range(source.randint(2, 5)):
                region, deep, n = random_region(source, 15), source.randint(1, 3), source.randint(0, 3)
                if source.random() < 0.5:
                    calls.append(("clear", region, deep, n, source.randint(1, 3), source.randint(0, 2), source.randrange(8)))
                else:
                    calls.append(("rest", region, region[::2], deep, n, source.randrange(8)))
            self.check(calls, TOOLS, CLAMPS[:source.randint(0, 3)])

    def test_two_makers(self):
        one, other = Maker(TOOLS, []), Maker(TOOLS, CLAMPS)
        one.clear(BOX, 2, 0, 1, 0, 0)
        ahead = one.program()
        other.clear(REGIONS[2], 1, 1, 1, 1, 0)
        self.assertEqual(one.program(), ahead)
        self.assertEqual(other.program(), made(TOOLS, CLAMPS, [("clear", REGIONS[2], 1, 1, 1, 1, 0)]))


class HandedInAndTold(Orders):
    CALLS = [("clear", BOX, 2, 1, 1, 1, 3), ("rest", BOX, reached(BOX, TOOLS[1]), 2, 0, 3)]

    def test_kinds(self):
        wanted = self.check(self.CALLS, TOOLS, CLAMPS)
        for kind in (as_lists, as_tuples):
            told = made(kind(TOOLS), kind(CLAMPS), [kind(call) for call in self.CALLS])
            self.assertEqual(told, wanted)
            self.check_form(told)

    def test_what_is_handed_in_stays(self):
        tools, clamps, calls = as_lists(TOOLS), as_lists(CLAMPS), as_lists(self.CALLS)
        made(tools, clamps, calls)
        self.assertEqual([tools, clamps, calls], [as_lists(TOOLS), as_lists(CLAMPS), as_lists(self.CALLS)])

    def test_nothing_handed_in_is_read_later(self):
        wanted = made(TOOLS, CLAMPS, self.CALLS)
        tools, clamps, calls = as_lists(TOOLS), as_lists(CLAMPS), as_lists(self.CALLS)
        maker = Maker(tools, clamps)
        tools[0][3] = 9
        tools[1][0] = 6
        tools.clear()
        clamps[0][0][0] = 1
        clamps[1].clear()
        clamps.append(shifted(TRIANGLE, 3, 3))
        maker.clear(*calls[0][1:])
        ahead = maker.program()
        for quarter in calls[0][1]:
            quarter[0] += 1
        calls[0][1].clear()
        self.assertEqual(maker.program(), ahead)
        maker.rest(*calls[1][1:])
        calls[1][2].clear()
        self.assertEqual(maker.program(), wanted)

    def test_the_program_is_a_list_of_its_own_each_time(self):
        maker = Maker(TOOLS, CLAMPS)
        self.assertIsNone(maker.clear(*self.CALLS[0][1:]))
        told = maker.program()
        again = list(told)
        self.assertIsNot(told, maker.program())
        told.reverse()
        told.append("more")
        self.assertEqual(maker.program(), again)
        told.clear()
        self.assertIsNone(maker.rest(*self.CALLS[1][1:]))
        self.assertEqual(maker.program(), made(TOOLS, CLAMPS, self.CALLS))
        self.assertEqual(maker.program()[:len(again)], again)


class Played(Orders):
    """What is made cuts just what a tool reaches, and refuses nothing of what a plate asks."""

    def test_a_pocket_by_each_width_and_first(self):
        for region in REGIONS:
            for n in range(3):
                tool = TOOLS[n]
                for width in range(1, half_of(tool) + 1):
                    for first in range(half_of(tool) + 1):
                        told = made(TOOLS, [], [("clear", region, 3, n, width, first, 1)])
                        away = played(told, TOOLS, [], region, 3)
                        self.assertEqual(away, [plain_reached(region, tool)] * 3)

    def test_thirty_by_thirty_to_depth_six(self):
        region = region_of(BOX_30, ISLANDS)
        told = made(TOOLS, CLAMPS, [("clear", region, 6, 0, 1, 1, 0)])
        free = sorted(set(region) - set().union(*[region_of(clamp) for clamp in CLAMPS]))
        self.assertEqual(played(told, TOOLS, CLAMPS, region, 6), [plain_reached(free, TOOLS[0])] * 6)


if __name__ == "__main__":
    unittest.main()
