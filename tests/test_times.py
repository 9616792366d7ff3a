import copy
import random
import unittest

from plainly import as_lists, as_tuples
from plainpaths import TOOLS, TWO_ROOMS, region_of
from plainplate import plain_time, random_cut

from millpath.cleared import cleared
from millpath.times import time_of

TOOL = (2, 1, 3, 1, 1)


class TimeOf(unittest.TestCase):
    def test_no_orders(self):
        self.assertEqual(time_of([], [TOOL], 100), 0)
        self.assertEqual(time_of((), [TOOL], 0), 0)

    def test_takes(self):
        for change in (0, 1, 100, 12345):
            self.assertEqual(time_of([("take", 0)], [TOOL], change), change)
            self.assertEqual(time_of([("take", 0), ("take", 0), ("take", 1), ("take", 0)], [TOOL, TOOL], change), 4 * change)

    def test_overs(self):
        for x, y, length in ((0, 0, 0), (1, 0, 5), (0, -1, 5), (1, 1, 7), (-1, 1, 7), (3, 1, 17), (-2, 5, 29),
                             (300, -300, 2100), (300, 0, 1500), (-4, -4, 28)):
            self.assertEqual(time_of([("over", "low", x, y)], [TOOL], 50), length + 4)
            self.assertEqual(time_of([("over", "high", x, y)], [TOOL], 50), length + 20)
            self.assertEqual(time_of([("over", "low", x, y), ("over", "high", x, y)], [TOOL], 50), length + 24)
            there_and_back = [("over", "low", x, y), ("take", 0), ("over", "low", 0, 0)]
            self.assertEqual(time_of(there_and_back, [TOOL], 50), 2 * length + 58)

    def test_cuts(self):
        for pace in range(1, 10):
            tools = [(2, 1, pace, 9, 1)]
            for places, length in ((((0, 0, 0),), 0), (((0, 0, 4),), 40), (((0, 0, 0), (1, 0, 0)), 5),
                                   (((0, 0, 0), (1, 1, 1)), 7), (((0, 0, 3), (1, 0, 0)), 35),
                                   (((0, 0, 2), (0, 0, 3), (0, 0, 4)), 40), (((0, 0, 1), (-1, 1, 1), (-1, 0, 2)), 22),
                                   (((0, 0, 0), (0, 0, 1), (0, 1, 1), (0, 0, 0), (0, 0, 1)), 30)):
                self.assertEqual(time_of([("take", 0), ("cut", places)], tools, 0), pace * length)

    def test_the_tool_taken_last(self):
        tools = [(2, 1, 1, 1, 1), (2, 1, 5, 1, 1), (2, 1, 9, 1, 1)]
        orders = [("take", 2), ("take", 1), ("cut", ((0, 0, 1),)), ("take", 0), ("cut", ((0, 0, 1),))]
        self.assertEqual(time_of(orders, tools, 7), 21 + 50 + 10)

    def test_overs_begin_where_the_cut_ended(self):
        orders = [("take", 0), ("over", "low", 2, 0), ("cut", ((2, 0, 0), (3, 1, 0), (4, 1, 0))), ("over", "low", 4, 2)]
        self.assertEqual(time_of(orders, [TOOL], 0), 10 + 4 + 36 + 5 + 4)

    def test_what_chance_brings(self):
        source = random.Random(311)
        for _ in range(200):
            program, corner = [("take", source.randrange(6))], (0, 0)
            for _ in range(source.randint(0, 12)):
                way = source.random()
                if way < 0.2:
                    program.append(("take", source.randrange(6)))
                elif way < 0.5:
                    corner = (source.randint(-300, 300), source.randint(-300, 300))
                    program.append(("over", source.choice(["low", "high"])) + corner)
                else:
                    places = random_cut(source, corner, 6, source.randint(0, 9))
                    corner = places[-1][:2]
                    program.append(("cut", tuple(places)))
            change, ahead = source.randint(0, 200), copy.deepcopy(program)
            wanted = plain_time(program, TOOLS, change)
            self.assertEqual(time_of(program, TOOLS, change), wanted)
            self.assertEqual(time_of(as_lists(program), as_lists(TOOLS), change), wanted)
            self.assertEqual(time_of(as_tuples(program), as_tuples(TOOLS), change), wanted)
            self.assertEqual(program, ahead)

    def test_programs_for_pockets_and_their_parts(self):
        region = region_of(TWO_ROOMS)
        program = cleared(region, 3, TOOLS[:3], [], ([2, 0], 1, 1, 3))[0]
        self.assertEqual(time_of(program, TOOLS, 100), plain_time(program, TOOLS, 100))
        for at in range(1, len(program)):
            self.assertEqual(time_of(program[:at], TOOLS, 100), plain_time(program[:at], TOOLS, 100))
            if program[at][0] == "take":
                back = ("over", "low") + (program[at - 1][1][-1][:2])
                whole = time_of(program[:at], TOOLS, 100) + time_of([back] + program[at:], TOOLS, 100)
                self.assertEqual(time_of(program, TOOLS, 100), whole - time_of([back], TOOLS, 100))


if __name__ == "__main__":
    unittest.main()
