import random
import unittest

from plainly import STEPS, as_lists, as_tuples, mark, quarters_of, quarters_of_all

from millpath.areas import cut_area, cut_octos
from millpath.octos import is_octo

TOOLS = [(2, 1, 1, 1, 1), (3, 1, 4, 2, 3), (4, 3, 2, 3, 2), (6, 5, 9, 9, 9), (3, 2, 1, 1, 1)]
RISING = [
    ("take", 0), ("over", "low", 3, 3),
    ("cut", ((3, 3, 1), (4, 3, 1), (5, 3, 1), (6, 4, 2), (6, 5, 2), (6, 4, 2), (6, 4, 3), (7, 4, 0), (8, 4, 1))),
    ("over", "high", 3, 3), ("take", 1), ("cut", ((3, 3, 0), (3, 4, 0), (3, 5, 1))),
    ("over", "low", 3, 3), ("cut", ((3, 3, 0), (3, 4, 0), (3, 5, 1))),
]


def quarters_cut(program, tools, layer):
    """The set of the quarters that marks cut in a layer, place by place."""
    near = {tuple(tool): quarters_of(mark(tool, (0, 0))) for tool in tools}
    tool, found = None, set()
    for order in program:
        if order[0] == "take":
            tool = tuple(tools[order[1]])
        elif order[0] == "cut":
            for x, y, z in order[1]:
                if z > layer:
                    found.update([(p + x, q + y, side) for p, q, side in near[tool]])
    return found


def places_of(program):
    return [place for order in program if order[0] == "cut" for place in order[1]]


def next_place(source, place, field, deep, direction):
    """A place that may come behind another one, mostly straight on, within a field."""
    x, y, z = place
    if z < deep and source.random() < 0.1:
        return (x, y, z + 1), direction
    while True:
        if source.random() < 0.4:
            direction = source.randrange(8)
        dx, dy = STEPS[direction]
        if abs(x + dx) <= field and abs(y + dy) <= field:
            depth = source.choice([z, z, z, min(z + 1, deep), source.randint(0, z)])
            return (x + dx, y + dy, depth), direction
        direction = source.randrange(8)


def random_program(source, cuts, most, field, deep):
    program = [("take", source.randrange(5))]
    for _ in range(cuts):
        if source.random() < 0.3:
            program.append(("take", source.randrange(5)))
        corner = (source.randint(-field, field), source.randint(-field, field))
        program.append(("over", source.choice(["low", "high"])) + corner)
        places, direction = [corner + (source.randint(0, deep),)], source.randrange(8)
        while len(places) < most:
            place, direction = next_place(source, places[-1], field, deep, direction)
            places.append(place)
        program.append(("cut", tuple(places)))
    return program


def moved_program(program, x, y):
    told = []
    for order in program:
        if order[0] == "over":
            order = (order[0], order[1], order[2] + x, order[3] + y)
        elif order[0] == "cut":
            order = ("cut", tuple((p + x, q + y, z) for p, q, z in order[1]))
        told.append(order)
    return told


class CutOctosAndArea(unittest.TestCase):
    def check(self, program, tools, layer):
        octos = cut_octos(program, tools, layer)
        gone = quarters_cut(program, tools, layer)
        self.assertEqual(quarters_of_all(octos), gone)
        self.assertEqual(cut_area(program, tools, layer), len(gone))
        self.check_form(octos, program)
        return octos

    def check_form(self, octos, program):
        self.assertIs(type(octos), list)
        self.assertTrue(all(type(octo) is tuple and is_octo(octo) for octo in octos))
        self.assertEqual(len(set(octos)), len(octos))
        self.assertLessEqual(len(octos), len(places_of(program)))

    def test_no_cuts_at_all(self):
        for program in ([], [("take", 1)], [("over", "high", 4, 4)], [("take", 0), ("over", "low", 9, 9), ("take", 2)]):
            for layer in range(3):
                self.assertEqual(cut_octos(program, TOOLS, layer), [])
                self.assertEqual(cut_area(program, TOOLS, layer), 0)

    def test_one_place_and_its_layers(self):
        for number, tool in enumerate(TOOLS):
            for deep in range(4):
                program = [("take", number), ("over", "low", -4, 7), ("cut", ((-4, 7, deep),))]
                for layer in range(5):
                    wanted = quarters_of(mark(tool, (-4, 7))) if layer < deep else set()
                    self.assertEqual(quarters_of_all(cut_octos(program, TOOLS, layer)), wanted)
                    self.assertEqual(cut_area(program, TOOLS, layer), len(wanted))

    def test_straight_turning_coming_back_deeper_and_less_deep(self):
        for layer in range(5):
            self.check(RISING, TOOLS, layer)
        self.assertEqual(cut_area(RISING, TOOLS, 3), 0)

    def test_each_direction_and_turn(self):
        for first in range(8):
            for second in range(8):
                places = [(0, 0, 1)]
                for direction in [first] * 3 + [second] * 2:
                    x, y, z = places[-1]
                    places.append((x + STEPS[direction][0], y + STEPS[direction][1], z))
                for number in (0, 3):
                    self.check([("take", number), ("cut", tuple(places))], TOOLS, 0)

    def test_places_lifted_between(self):
        places = tuple((x, 0, 0 if x in (3, 4, 5, 6, 7) else 2) for x in range(8))
        self.check([("take", 0), ("cut", places)], TOOLS, 0)
        # Straight on behind a place that cut nothing: what lies between stays.
        far = tuple((x, 0, 1 if x in (0, 12) else 0) for x in range(13))
        self.check([("take", 0), ("cut", far)], TOOLS, 0)
        self.assertEqual(cut_area([("take", 0), ("cut", far)], TOOLS, 0), 2 * len(quarters_of(mark(TOOLS[0], (0, 0)))))

    def test_two_cuts_that_would_go_on_straight(self):
        program = [("take", 0), ("cut", ((0, 0, 1), (1, 0, 1))), ("over", "low", 9, 0),
                   ("cut", ((9, 0, 1), (10, 0, 1)))]
        self.check(program, TOOLS, 0)

    def test_the_same_cut_twice(self):
        cut = ("cut", ((0, 0, 2), (1, 1, 2), (2, 2, 2), (2, 1, 1)))
        once = self.check([("take", 2), cut], TOOLS, 0)
        twice = self.check([("take", 2), cut, ("over", "low", 0, 0), cut], TOOLS, 0)
        self.assertEqual(sorted(once), sorted(twice))
        self.check([("take", 2), cut, ("take", 0), ("over", "low", 0, 0), cut], TOOLS, 0)
        self.check([("take", 0), ("cut", ((5, 5, 1), (5, 5, 2), (5, 5, 3)))], TOOLS, 0)

    def test_the_tool_taken_last_cuts(self):
        cut = ("cut", ((0, 0, 1),))
        for one in range(5):
            for other in range(5):
                area = cut_area([("take", one), ("take", other), cut], TOOLS, 0)
                self.assertEqual(area, len(quarters_of(mark(TOOLS[other], (0, 0)))))

    def test_what_chance_brings(self):
        source = random.Random(81)
        for _ in range(60):
            program = random_program(source, source.randint(1, 6), source.randint(1, 25), 15, 4)
            for layer in range(5):
                self.check(program, TOOLS, layer)

    def test_six_figures(self):
        source = random.Random(82)
        for _ in range(30):
            program = random_program(source, 2, 6, 12, 3)
            x, y = source.randint(-999000, 999000), source.randint(-999000, 999000)
            far = moved_program(program, x, y)
            for layer in range(4):
                octos = cut_octos(far, TOOLS, layer)
                self.check_form(octos, far)
                self.assertEqual(cut_area(far, TOOLS, layer), cut_area(program, TOOLS, layer))
                back = quarters_of_all([
                    tuple(bound - more for bound, more in zip(octo, (x, x, y, y, x + y, x + y, x - y, x - y)))
                    for octo in octos])
                self.assertEqual(back, quarters_cut(program, TOOLS, layer))

    def test_cuts_far_from_one_another(self):
        program, area = [("take", 2)], 0
        for x, y in ((-999999, 5), (999999, -999999), (0, 0), (123456, 654321)):
            program += [("over", "high", x, y), ("cut", ((x, y, 1), (x + 1, y + 1, 1), (x + 2, y + 2, 2)))]
            area += cut_area([("take", 2), program[-1]], TOOLS, 0)
        self.assertEqual(cut_area(program, TOOLS, 0), area)
        self.assertEqual(cut_area(program, TOOLS, 1), 4 * len(quarters_of(mark(TOOLS[2], (0, 0)))))

    def test_as_many_places_as_may_come(self):
        source = random.Random(83)
        for field in (15, 200):
            program = random_program(source, 150, 40, field, 6)
            self.assertEqual(len(places_of(program)), 6000)
            for layer in (0, 4):
                self.check(program, TOOLS, layer)

    def test_lists_and_tuples_which_stay(self):
        told = [sorted(cut_octos(RISING, TOOLS, layer)) for layer in range(3)]
        areas = [cut_area(RISING, TOOLS, layer) for layer in range(3)]
        for program, tools in ((as_lists(RISING), as_lists(TOOLS)), (as_tuples(RISING), as_tuples(TOOLS))):
            ahead = repr((program, tools))
            for layer in range(3):
                self.assertEqual(sorted(cut_octos(program, tools, layer)), told[layer])
                self.assertEqual(cut_area(program, tools, layer), areas[layer])
                self.assertTrue(all(type(octo) is tuple for octo in cut_octos(program, tools, layer)))
            self.assertEqual(repr((program, tools)), ahead)

    def test_what_is_told_is_the_askers_own(self):
        told = cut_octos(RISING, TOOLS, 0)
        again = list(told)
        told.clear()
        self.assertEqual(cut_octos(RISING, TOOLS, 0), again)


if __name__ == "__main__":
    unittest.main()
