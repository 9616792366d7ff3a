import copy
import random
import unittest

from plainly import as_lists, as_tuples, shifted
from plainpaths import region_of, shuffled
from plainplate import PlainPlate, all_quarters, book_of, mark_at, outcome, random_cut

from millpath.plate import Plate

SMALL = (2, 1, 1, 1, 1)
WIDE = (3, 2, 2, 2, 3)
DEEP = (2, 1, 3, 9, 2)
BOX = [(0, 0), (2, 0), (2, 2), (0, 2)]


class Both:
    """A plate and its plain book, played side by side."""

    def __init__(self, test, wide, high, deep, tools, clamps=(), stays=None):
        stays = [[] for _ in range(deep)] if stays is None else stays
        self.test, self.deep = test, deep
        self.plate = Plate(wide, high, deep, tools, clamps, stays)
        self.plain = PlainPlate(wide, high, deep, tools, clamps, stays)
        self.same()

    def same(self):
        told = book_of(self.plate, self.deep)
        self.test.assertEqual(told, self.plain.book())
        self.test.assertIs(type(told[0]), tuple)
        for regions in told[2:]:
            for region in regions:
                self.test.assertIs(type(region), list)
                self.test.assertTrue(all(type(quarter) is tuple for quarter in region))

    def play(self, order):
        ahead, handed = self.plain.book(), copy.deepcopy(order)
        told = outcome(self.plate.play, order)
        self.test.assertEqual(told, self.plain.play(order), order)
        if told is not None:
            self.test.assertEqual(self.plain.book(), ahead)
        self.same()
        self.test.assertEqual(order, handed)
        return told

    def done(self, *orders):
        for order in orders:
            self.test.assertIsNone(self.play(order), order)


class Takes(unittest.TestCase):
    def test_at_first(self):
        plate = Plate(3, 2, 2, [SMALL], [], [[], []])
        self.assertEqual((plate.corner(), plate.tool()), ((0, 0), None))
        for layer in range(2):
            self.assertEqual(plate.away(layer), [])
            self.assertEqual(plate.stands(layer), sorted(all_quarters(3, 2)))

    def test_the_least_and_the_greatest_plate(self):
        for wide, high, deep in ((1, 1, 1), (30, 30, 6), (1, 30, 2), (30, 1, 3)):
            both = Both(self, wide, high, deep, [SMALL])
            both.done(("take", 0), ("over", "low", wide, high), ("cut", ((wide, high, 1),)))
            self.assertTrue(both.plate.away(0))

    def test_takes(self):
        both = Both(self, 5, 5, 2, [SMALL, WIDE, DEEP])
        for number in (-1, 3, -3, 400):
            self.assertEqual(both.play(("take", number)), ("NoTool",))
        both.done(("take", 2), ("take", 0), ("take", 0), ("take", 1))
        self.assertEqual(both.plate.tool(), 1)
        for number in (-1, 3):
            self.assertEqual(both.play(("take", number)), ("NoTool",))
            self.assertEqual(both.plate.tool(), 1)

    def test_no_tool_is_taken(self):
        both = Both(self, 5, 5, 2, [SMALL], [shifted(BOX, 0, 0)], [sorted(all_quarters(5, 5))] * 2)
        for order in (("over", "low", 3, 3), ("over", "high", 3, 3), ("over", "low", 0, 0), ("cut", ((0, 0, 0),)),
                      ("cut", ((0, 0, 1),)), ("cut", ((4, 4, 9),)), ("cut", ((0, 0, 2),))):
            self.assertEqual(both.play(order), ("NoTool",))
        self.assertEqual(both.play(("take", 5)), ("NoTool",))
        self.assertEqual(both.play(("over", "high", 3, 3)), ("NoTool",))

    def test_what_play_tells(self):
        plate = Plate(5, 5, 2, [SMALL], [], [[], []])
        self.assertIsNone(plate.play(("take", 0)))
        self.assertIsNone(plate.play(("over", "high", 1, 1)))
        self.assertIsNone(plate.play(("cut", ((1, 1, 1),))))
        self.assertIsNone(plate.play_all([("over", "low", 1, 1)]))
        self.assertIsNone(plate.play_all([]))


class Overs(unittest.TestCase):
    def test_without_clamps(self):
        both = Both(self, 6, 4, 1, [SMALL])
        both.done(("take", 0))
        for x, y in ((3, 2), (3, 2), (0, 4), (-20, 17), (300, -300), (-300, 300), (0, 0)):
            both.done(("over", "low", x, y))
            self.assertEqual(both.plate.corner(), (x, y))
            both.done(("over", "high", x, y))
            self.assertEqual((both.plate.corner(), both.plate.tool()), ((x, y), 0))

    def test_the_first_corner_that_meets(self):
        both = Both(self, 12, 8, 2, [SMALL], [[(6, 0), (8, 0), (8, 2), (6, 2)]])
        both.done(("take", 0))
        self.assertEqual(both.play(("over", "low", 12, 0)), ("Meets", (5, 0)))
        self.assertEqual(both.plate.corner(), (0, 0))
        both.done(("over", "high", 12, 0), ("over", "high", 12, 5))
        self.assertEqual(both.play(("over", "low", 6, 0)), ("Meets", (9, 2)))
        both.done(("over", "low", 0, 5), ("over", "high", 0, 0), ("over", "low", 4, 0), ("over", "low", 4, 4))

    def test_ways_past_along_and_across(self):
        clamps = [shifted(BOX, 4, 3), [(-3, -3), (-1, -3), (-3, -1)], [(10, -2), (14, 2), (10, 6)], [(2, 8), (3, 8), (3, 9)]]
        for tool in (SMALL, WIDE):
            for one in ((-6, 0), (0, 0), (0, 9), (12, 12), (8, -4), (1, 5)):
                for other in ((0, 0), (12, 0), (12, 9), (-8, -8), (5, -7), (5, 12), (-7, 6), (7, 7), one):
                    both = Both(self, 12, 8, 1, [tool], clamps)
                    both.done(("take", 0), ("over", "high", one[0], one[1]))
                    both.play(("over", "low", other[0], other[1]))
                    both.done(("over", "high", other[0], other[1]))

    def test_a_corner_at_which_the_tool_is_already(self):
        both = Both(self, 9, 9, 1, [SMALL, WIDE], [shifted(BOX, 2, 0)])
        both.done(("take", 0), ("over", "low", 0, 0), ("take", 1))
        self.assertEqual(both.play(("over", "low", 0, 0)), ("Meets", (0, 0)))
        self.assertEqual(both.play(("over", "low", -5, 0)), ("Meets", (0, 0)))
        both.done(("over", "high", 0, 0), ("take", 0), ("over", "low", 0, 0))

    def test_clamps_that_hold_the_tool_or_are_slim(self):
        large = [(-200, -200), (200, -200), (200, 200), (-200, 200)]
        both = Both(self, 4, 4, 1, [SMALL], [[(20, 0), (21, 0), (20, 1)]])
        both.done(("take", 0), ("over", "low", 18, 0))
        self.assertEqual(both.play(("over", "low", 30, 0)), ("Meets", (19, 0)))
        plate = Plate(4, 4, 1, [SMALL], [large], [[]])
        plate.play(("take", 0))
        self.assertEqual(outcome(plate.play, ("over", "low", 300, 0)), ("Meets", (0, 0)))
        self.assertIsNone(plate.play(("over", "high", 300, 0)))
        self.assertEqual(outcome(plate.play, ("over", "low", 0, 0)), ("Meets", (201, 0)))

    def test_a_low_way_cuts_nothing(self):
        both = Both(self, 6, 6, 2, [SMALL], [], [sorted(all_quarters(6, 6))] * 2)
        both.done(("take", 0), ("over", "low", 6, 6), ("over", "low", 0, 3))


class NoWays(unittest.TestCase):
    def setUp(self):
        self.stays = [sorted(all_quarters(9, 9))] * 3
        self.clamps = [shifted(BOX, 6, 0)]

    def both(self, stays=None, clamps=()):
        both = Both(self, 9, 9, 3, [SMALL], clamps, stays)
        both.done(("take", 0), ("over", "high", 3, 3))
        return both

    def wrong(self):
        """Places that can't come behind (3, 3, 1)."""
        return [(3, 3, 1), (3, 3, 0), (3, 3, 3), (4, 3, 3), (4, 4, 3), (5, 3, 1), (3, 5, 1), (5, 5, 1), (1, 3, 0),
                (5, 4, 0), (3, 1, 2), (4, 4, -1), (3, 3, -1), (300, 3, 1)]

    def test_each_way_that_a_place_is_wrong(self):
        for place in self.wrong():
            self.assertEqual(self.both().play(("cut", ((3, 3, 1), place))), ("NoWay",), place)
            self.assertEqual(self.both().play(("cut", ((3, 3, 0), (3, 3, 1), place))), ("NoWay",), place)

    def test_right_places_behind_the_one_ahead(self):
        for place in [(3, 3, 2)] + [(3 + x, 3 + y, z) for x in (-1, 0, 1) for y in (-1, 0, 1) for z in (0, 1, 2)
                                    if x or y]:
            both = Both(self, 9, 9, 3, [DEEP])
            both.done(("take", 0), ("over", "high", 3, 3), ("cut", ((3, 3, 1), place)))

    def test_less_deep_by_any_number(self):
        both = Both(self, 9, 9, 6, [DEEP])
        both.done(("take", 0), ("cut", ((0, 0, 6), (1, 0, 0))), ("cut", ((1, 0, 6), (0, 1, 2), (0, 0, 2))))

    def test_the_first_place(self):
        for place in ((3, 4, 1), (2, 3, 0), (0, 0, 0), (3, 3, -1), (3, 3, 4), (3, 3, 7)):
            self.assertEqual(self.both().play(("cut", (place,))), ("NoWay",))
        for z in range(4):
            both = Both(self, 9, 9, 3, [DEEP])
            both.done(("take", 0), ("over", "low", 3, 3), ("cut", ((3, 3, z),)))
            self.assertEqual([bool(both.plate.away(layer)) for layer in range(3)], [layer < z for layer in range(3)])

    def test_deeper_than_the_plate(self):
        both = self.both()
        self.assertEqual(both.play(("cut", ((3, 3, 1), (3, 3, 2), (3, 3, 3), (3, 3, 4)))), ("NoWay",))
        both.done(("cut", ((3, 3, 1), (3, 3, 2), (3, 3, 3))))

    def test_ahead_of_all_else_wherever_the_place_stands(self):
        both = self.both(self.stays, self.clamps)
        meets = ("cut", ((3, 3, 0), (4, 3, 0), (5, 2, 0), (6, 2, 0)))
        self.assertEqual(both.play(meets), ("Meets", (5, 2)))
        self.assertEqual(both.play(("cut", meets[1] + ((6, 2, 2),))), ("NoWay",))
        self.assertEqual(both.play(("cut", ((3, 3, 3),))), ("Bites", (3, 3)))
        self.assertEqual(both.play(("cut", ((3, 3, 3), (3, 3, 3)))), ("NoWay",))
        self.assertEqual(both.play(("cut", ((3, 3, 1),))), ("Cuts", 0, (1, 1, 0)))
        self.assertEqual(both.play(("cut", ((3, 3, 1), (4, 3, 1), (6, 3, 1)))), ("NoWay",))
        self.assertEqual(both.play(("cut", ((2, 3, 1),))), ("NoWay",))


class Refusals(unittest.TestCase):
    def test_meets_then_bites_then_cuts(self):
        stays = [sorted(all_quarters(9, 9))] * 3
        for clamps, stay, wanted in (([BOX], stays, ("Meets", (3, 3))), ([], stays, ("Bites", (3, 3))),
                                     ([], [[]] * 3, ("Bites", (3, 3)))):
            both = Both(self, 9, 9, 3, [SMALL, WIDE], clamps, stay)
            both.done(("take", 1), ("over", "high", 3, 3))
            self.assertEqual(both.play(("cut", ((3, 3, 3), (4, 3, 3)))), wanted)
        both = Both(self, 9, 9, 3, [WIDE], [], stays)
        both.done(("take", 0), ("over", "high", 3, 3))
        self.assertEqual(both.play(("cut", ((3, 3, 2),))), ("Cuts", 0, (0, 0, 0)))

    def test_place_by_place(self):
        clamp, stay = shifted(BOX, 12, 3), [(11, 4, 0)]
        both = Both(self, 15, 9, 3, [SMALL], [clamp], [[], stay, []])
        both.done(("take", 0), ("over", "high", 4, 4))
        way = tuple((x, 4, 1) for x in range(4, 10))
        self.assertEqual(both.play(("cut", way + ((10, 4, 2), (11, 4, 2)))), ("Bites", (10, 4)))
        both.done(("cut", way + ((10, 4, 1),)))
        both.done(("over", "low", 4, 4))
        two = tuple((x, 4, 2) for x in range(4, 10))
        self.assertEqual(both.play(("cut", two + ((10, 4, 2), (11, 4, 2)))), ("Cuts", 1, (11, 4, 0)))
        self.assertEqual(both.play(("cut", two + ((10, 4, 1), (11, 4, 1)))), ("Meets", (11, 4)))
        both.done(("cut", two + ((10, 4, 1),)))

    def test_meets_at_any_depth(self):
        both = Both(self, 9, 9, 2, [SMALL], [shifted(BOX, 4, 0)])
        both.done(("take", 0), ("over", "low", 2, 0))
        for z in (0, 1, 2):
            self.assertEqual(both.play(("cut", ((2, 0, 0), (3, 0, 0)) if z == 0 else ((2, 0, 1), (3, 0, z)))),
                             ("Meets", (3, 0)))
        both.done(("over", "high", 3, 0))
        for z in (0, 1, 2):
            self.assertEqual(both.play(("cut", ((3, 0, z),))), ("Meets", (3, 0)))

    def test_clamps_beyond_the_plate(self):
        both = Both(self, 4, 4, 1, [SMALL], [[(-4, -4), (-2, -4), (-2, 4), (-4, 4)], [(300, 300), (301, 300), (300, 301)]])
        both.done(("take", 0), ("cut", ((0, 0, 1), (1, 0, 1), (0, 0, 1))))
        self.assertEqual(both.play(("cut", ((0, 0, 1), (-1, 0, 1)))), ("Meets", (-1, 0)))
        both.done(("over", "low", 40, 40), ("cut", ((40, 40, 1), (41, 40, 0))))

    def test_bites_counts_what_the_cut_took_ahead(self):
        both = Both(self, 9, 9, 4, [SMALL])
        both.done(("take", 0), ("over", "low", 4, 4))
        self.assertEqual(both.play(("cut", ((4, 4, 2),))), ("Bites", (4, 4)))
        self.assertEqual(both.play(("cut", ((4, 4, 1), (5, 4, 1), (4, 4, 2), (5, 4, 3)))), ("Bites", (5, 4)))
        both.done(("cut", ((4, 4, 1), (4, 4, 2), (4, 4, 3))))
        both.done(("cut", ((4, 4, 3), (5, 4, 1), (5, 4, 2), (4, 4, 3), (4, 4, 4))))
        self.assertEqual(both.play(("cut", ((4, 4, 4), (4, 3, 2)))), ("Bites", (4, 3)))

    def test_the_bite_itself(self):
        for bite in range(1, 10):
            both = Both(self, 5, 5, 6, [(2, 1, 1, bite, 1)])
            both.done(("take", 0), ("over", "low", 2, 2))
            for z in range(1, 7):
                self.assertEqual(both.play(("cut", ((2, 2, z),))), ("Bites", (2, 2)) if z > both_top(both) + bite else None)

    def test_cuts_by_layers_then_rising(self):
        held = sorted(mark_at(DEEP, (4, 4)))
        stays = [[], [held[9], held[5]], [held[0]], [held[1]]]
        both = Both(self, 9, 9, 4, [DEEP], [], stays)
        both.done(("take", 0), ("over", "low", 4, 4), ("cut", ((4, 4, 1),)))
        for z in (2, 3, 4):
            self.assertEqual(both.play(("cut", ((4, 4, z),))), ("Cuts", 1, held[5]))
        both = Both(self, 9, 9, 4, [DEEP], [], [[], [], [held[7], held[3]], held])
        both.done(("take", 0), ("over", "low", 4, 4), ("cut", ((4, 4, 2),)))
        self.assertEqual(both.play(("cut", ((4, 4, 2), (4, 4, 3)))), ("Cuts", 2, held[3]))
        self.assertEqual(both.play(("cut", ((4, 4, 4),))), ("Cuts", 2, held[3]))

    def test_a_refused_cut_leaves_all(self):
        both = Both(self, 12, 9, 2, [SMALL], [], [[], [(9, 4, 0)]])
        both.done(("take", 0), ("over", "low", 3, 4))
        way = tuple((x, 4, 1) for x in range(3, 9))
        self.assertEqual(both.play(("cut", way + ((8, 4, 2), (9, 4, 2)))), ("Cuts", 1, (9, 4, 0)))
        self.assertEqual(both.plate.away(0), [])
        self.assertEqual(both.plate.corner(), (3, 4))
        both.done(("cut", way))
        self.assertEqual(both.plate.corner(), (8, 4))

    def test_marks_in_part_beyond_the_plate_and_stays_there(self):
        beyond = sorted(mark_at(WIDE, (0, 0)) - all_quarters(6, 5))
        both = Both(self, 6, 5, 3, [WIDE], [], [beyond, beyond, beyond + [(0, 0, 3)]])
        both.done(("take", 0), ("cut", ((0, 0, 2),)))
        self.assertEqual(both.play(("cut", ((0, 0, 3),))), ("Cuts", 2, (0, 0, 3)))
        for corner in ((6, 5), (6, 0), (0, 5), (-2, 2), (8, 2), (3, 7), (-3, -3), (20, 20), (-100, 4)):
            both.done(("over", "low", corner[0], corner[1]), ("cut", (corner + (2,),)))

    def test_bites_beyond_the_plate_are_not_told(self):
        both = Both(self, 6, 5, 3, [SMALL])
        both.done(("take", 0), ("over", "low", -2, 2), ("cut", ((-2, 2, 3),)), ("over", "low", 40, 2),
                  ("cut", ((40, 2, 3),)), ("over", "low", -1, 2))
        self.assertEqual(both.play(("cut", ((-1, 2, 3),))), ("Bites", (-1, 2)))

    def test_depth_nought_cuts_nothing(self):
        both = Both(self, 6, 5, 2, [SMALL], [], [sorted(all_quarters(6, 5))] * 2)
        both.done(("take", 0), ("cut", ((0, 0, 0), (1, 0, 0), (2, 1, 0))))
        self.assertEqual(both.plate.away(0), [])
        self.assertEqual(both.plate.corner(), (2, 1))


def both_top(both):
    """How many layers are away at the plate's middle."""
    return len([layer for layer in range(both.deep) if both.plate.away(layer)])


class Programs(unittest.TestCase):
    def test_play_all_up_to_the_first_refusal(self):
        orders = [("take", 0), ("over", "low", 3, 3), ("cut", ((3, 3, 1),)), ("cut", ((3, 3, 3),)),
                  ("take", 1), ("over", "low", 5, 5)]
        plate = Plate(9, 9, 3, [SMALL, WIDE], [], [[], [], []])
        plain = PlainPlate(9, 9, 3, [SMALL, WIDE], [], [[], [], []])
        self.assertEqual(outcome(plate.play_all, orders), ("Bites", (3, 3)))
        for order in orders[:3]:
            plain.play(order)
        self.assertEqual(book_of(plate, 3), plain.book())
        self.assertIsNone(plate.play_all(orders[4:]))
        self.assertEqual((plate.tool(), plate.corner()), (1, (5, 5)))
        self.assertEqual(outcome(plate.play_all, tuple(as_lists(orders[3:]))), ("NoWay",))

    def test_what_chance_brings(self):
        source = random.Random(301)
        seen = {}
        for _ in range(200):
            wide, high, deep = source.randint(1, 10), source.randint(1, 10), source.randint(1, 4)
            tools = source.sample([SMALL, WIDE, DEEP, (3, 1, 1, 2, 1)], source.randint(1, 3))
            clamps = [shifted(BOX, source.randint(-6, 16), source.randint(-6, 16)) for _ in range(source.randint(0, 2))]
            whole = sorted(all_quarters(wide + 2, high))
            stays = [source.sample(whole, source.choice([0, 0, 1, 3])) for _ in range(deep)]
            both = Both(self, wide, high, deep, tools, clamps, stays)
            for _ in range(25):
                told = both.play(self.random_order(source, both, len(tools), deep))
                kind = told and told[0]
                seen[kind] = seen.get(kind, 0) + 1
        self.assertTrue(all(seen.get(kind, 0) > 5 for kind in (None, "NoTool", "NoWay", "Meets", "Bites", "Cuts")), seen)

    def random_order(self, source, both, many, deep):
        way = source.random()
        if way < 0.15:
            return ("take", source.randint(-1, many))
        if way < 0.4:
            return ("over", source.choice(["low", "high"]), source.randint(-3, 12), source.randint(-3, 12))
        places = random_cut(source, both.plate.corner(), deep, source.choice([0, 1, 4, 12]))
        if source.random() < 0.15:
            at = source.randrange(len(places))
            places[at] = tuple(part + source.randint(-1, 2) for part in places[at])
        return ("cut", tuple(places))

    def test_kinds(self):
        stays, clamps = [[(5, 5, 0)], [(3, 3, 1), (4, 4, 0)]], [shifted(BOX, 7, 0)]
        orders = [("take", 0), ("over", "low", 3, 3), ("cut", ((3, 3, 1), (4, 3, 1))), ("over", "high", 2, 4),
                  ("cut", ((2, 4, 0), (2, 4, 1)))]
        plates = []
        for change in (as_lists, as_tuples):
            plate = Plate(9, 9, 2, change([SMALL]), change(clamps), change(stays))
            plate.play_all(change(orders))
            plates.append(book_of(plate, 2))
        self.assertEqual(plates[0], plates[1])
        self.assertIs(type(plates[0][0]), tuple)
        self.assertEqual(plates[0][0], (2, 4))

    def test_nothing_is_kept_to_be_read_later(self):
        tools, clamps, stays = as_lists([SMALL, WIDE]), as_lists([shifted(BOX, 8, 0)]), as_lists([[(6, 6, 0)], []])
        order = ["cut", [[3, 3, 1], [4, 3, 1]]]
        plate = Plate(12, 9, 2, tools, clamps, stays)
        other = Plate(12, 9, 2, [SMALL, WIDE], [shifted(BOX, 8, 0)], [[(6, 6, 0)], []])
        plate.play_all([["take", 0], ["over", "low", 3, 3], order])
        other.play_all([["take", 0], ["over", "low", 3, 3], ["cut", [[3, 3, 1], [4, 3, 1]]]])
        tools[0][0], tools[0][3] = 5, 9
        tools.pop()
        clamps[0][0][0] = -40
        clamps.append(shifted(BOX, 3, 3))
        stays[0][0][0] = 3
        stays[1].append([3, 3, 0])
        stays.pop()
        order[1][1][0] = 7
        order[1].clear()
        for change in (("cut", ((4, 3, 2), (5, 3, 2))), ("over", "low", 6, 6), ("cut", ((6, 6, 1),)), ("take", 1),
                       ("over", "low", 5, 0), ("cut", ((4, 3, 1), (5, 4, 1))), ("over", "low", 12, 0)):
            self.assertEqual(outcome(plate.play, change), outcome(other.play, change))
            self.assertEqual(book_of(plate, 2), book_of(other, 2))

    def test_what_is_told_is_the_askers_own(self):
        both = Both(self, 5, 5, 2, [SMALL])
        both.done(("take", 0), ("over", "low", 2, 2), ("cut", ((2, 2, 1),)))
        for ask in (both.plate.away, both.plate.stands):
            told = ask(0)
            self.assertIsNot(ask(0), told)
            told.clear()
            ask(1).append((9, 9, 9))
            both.same()

    def test_what_was_told_stays_as_it_was(self):
        both = Both(self, 5, 5, 1, [SMALL])
        both.done(("take", 0))
        away, stands, corner = both.plate.away(0), both.plate.stands(0), both.plate.corner()
        both.done(("over", "low", 2, 2), ("cut", ((2, 2, 1),)))
        self.assertEqual((away, stands, corner), ([], sorted(all_quarters(5, 5)), (0, 0)))

    def test_two_plates_do_not_meddle(self):
        stays = [[], []]
        one, other = Plate(5, 5, 2, [SMALL], [], stays), Plate(5, 5, 2, [SMALL], [], stays)
        one.play_all([("take", 0), ("over", "low", 2, 2), ("cut", ((2, 2, 1),))])
        self.assertEqual((other.tool(), other.corner(), other.away(0)), (None, (0, 0), []))

    def test_stays_in_any_order(self):
        source = random.Random(302)
        region = region_of([(2, 2), (6, 2), (6, 6), (2, 6)])
        for stays in (region, region[::-1], shuffled(source, region)):
            both = Both(self, 8, 8, 1, [SMALL], [], [stays])
            both.done(("take", 0), ("over", "low", 4, 4))
            self.assertEqual(both.play(("cut", ((4, 4, 1),))), ("Cuts", 0, (2, 2, 0)))

    def test_the_greatest_sizes(self):
        source = random.Random(303)
        plate = Plate(30, 30, 6, [(6, 5, 1, 9, 1)] * 5, [shifted(BOX, 40 + at, 40) for at in range(6)], [[]] * 6)
        program, corner = [("take", 0)], (0, 0)
        for at in range(133):
            places, (x, y) = [], corner
            for _ in range(45):
                places.append((x, y, 6))
                x, y = (x + 1, y) if x < 30 and at % 2 == 0 else (x, y + 1) if y < 30 else (x - 1, y - 1)
            corner = (source.randint(0, 30), source.randint(0, 30))
            program += [("take", at % 5), ("cut", tuple(places)), ("over", "low") + corner]
        self.assertEqual(plate.play_all(program), None)
        self.assertEqual(plate.corner(), corner)
        self.assertEqual([len(plate.away(layer)) for layer in range(6)], [len(plate.away(0))] * 6)


if __name__ == "__main__":
    unittest.main()
