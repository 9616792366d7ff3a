"""What holds of the whole: programs for pockets, played on plates, leave just what they tell as left."""

import random
import unittest

from plainly import CUT_BOX, L_FORM, NOTCHED, U_FORM, quarters_inside, quarters_of_all, shifted
from plainpaths import ASLANT, TOOLS, TWO_ROOMS, region_of
from plainplate import PlainPlate, all_quarters, book_of, random_cut

from millpath.areas import cut_area, cut_octos
from millpath.cleared import cleared
from millpath.plate import Plate
from millpath.tools import half_of


def times(outline, factor, x, y):
    return shifted([(p * factor, q * factor) for p, q in outline], x, y)


POCKETS = [
    (shifted(TWO_ROOMS, 2, 3), []),
    (shifted(ASLANT, 4, 4), [[(12, 12), (15, 12), (15, 15), (12, 15)]]),
    (times(CUT_BOX, 4, 1, 1), [times(CUT_BOX, 1, 9, 9)]),
    (times(L_FORM, 4, 2, 2), [[(4, 4), (5, 5), (4, 6)]]),
    (times(U_FORM, 3, 3, 3), []),
    (times(NOTCHED, 3, 1, 2), []),
    ([(0, 0), (25, 0), (25, 25), (0, 25)], [[(5, 5), (9, 5), (9, 9), (5, 9)], [(7, 7), (12, 7), (12, 20), (7, 20)]]),
]
CLAMPS = [[(0, 0), (4, 0), (4, 4)], [(14, 6), (17, 6), (17, 9), (14, 9)], [(20, 18), (24, 22), (20, 26), (16, 22)]]


class Whole(unittest.TestCase):
    def stays(self, wide, high, pocket, cut, deep):
        """All that isn't of the pocket in the layers that are cut, all in the others."""
        whole = all_quarters(wide, high)
        return [sorted(whole - set(pocket)) if layer < cut else sorted(whole) for layer in range(deep)]

    def check(self, wide, high, deep, pocket, cut, tools, clamps, plan):
        stays = self.stays(wide, high, pocket, cut, deep)
        program, left = cleared(pocket, cut, tools, clamps, plan)
        plate = Plate(wide, high, deep, tools, clamps, stays)
        self.assertIsNone(plate.play_all(program))
        plain = PlainPlate(wide, high, deep, tools, clamps, stays)
        self.assertTrue(all(plain.play(order) is None for order in program))
        self.assertEqual(book_of(plate, deep), plain.book())
        wanted = sorted((set(pocket) - set(left)) & all_quarters(wide, high))
        for layer in range(deep):
            self.assertEqual(plate.away(layer), wanted if layer < cut else [])
        return program

    def random_case(self, source):
        outline, islands = source.choice(POCKETS)
        tools = source.sample(TOOLS[:5], source.randint(1, 3))
        numbers = source.sample(range(len(tools)), source.randint(1, len(tools)))
        half = half_of(tools[numbers[0]])
        plan = (numbers, source.randint(1, half), source.randint(0, half), source.randrange(8))
        clamps = source.sample(CLAMPS, source.choice([0, 1, 1, 2, 3]))
        return region_of(outline, islands), tools, clamps, plan

    def test_pockets_on_plates_that_hold_them(self):
        source = random.Random(321)
        for _ in range(24):
            pocket, tools, clamps, plan = self.random_case(source)
            deep = source.randint(1, 4)
            self.check(30, 30, deep, pocket, source.randint(1, deep), tools, clamps, plan)

    def test_pockets_on_smaller_plates(self):
        source = random.Random(322)
        for _ in range(12):
            pocket, tools, clamps, plan = self.random_case(source)
            deep = source.randint(1, 3)
            self.check(source.randint(1, 20), source.randint(1, 20), deep, pocket, source.randint(1, deep), tools, clamps, plan)

    def test_each_grain_and_width(self):
        pocket = region_of(shifted(TWO_ROOMS, 2, 3))
        tools = [(4, 3, 2, 3, 2), (2, 1, 1, 1, 1)]
        for grain in range(8):
            for width in range(1, 4):
                for first in range(4):
                    if (grain + width + first) % 3 == 0:
                        self.check(30, 30, 2, pocket, 2, tools, CLAMPS[1:2], ((0, 1), width, first, grain))

    def test_the_plate_and_the_areas_agree(self):
        source = random.Random(323)
        for wide, high in ((40, 40), (40, 40), (11, 8)):
            pocket, tools, clamps, plan = self.random_case(source)
            program = cleared(pocket, 3, tools, clamps, plan)[0]
            self.assertGreater(len(program), 10)
            plate = Plate(wide, high, 3, tools, clamps, [[], [], []])
            for at, order in enumerate(program):
                plate.play(order)
                if at % 7 == 0 or at == len(program) - 1:
                    for layer in range(3):
                        octos = quarters_of_all(cut_octos(program[:at + 1], tools, layer))
                        self.assertEqual(plate.away(layer), sorted(octos & all_quarters(wide, high)))
                        if wide == 40:
                            self.assertEqual(len(plate.away(layer)), cut_area(program[:at + 1], tools, layer))

    def test_any_cuts_and_the_areas_agree(self):
        source = random.Random(325)
        tools = [(2, 1, 1, 9, 1), (3, 2, 1, 9, 1), (6, 1, 1, 9, 1)]
        for _ in range(25):
            program, corner = [], (0, 0)
            for _ in range(6):
                places = random_cut(source, corner, 3, source.choice([0, 3, 15]))
                corner = (source.randint(0, 20), source.randint(0, 20))
                program += [("take", source.randrange(3)), ("cut", tuple(places)), ("over", "high") + corner]
            plate = Plate(17, 14, 3, tools, [], [[], [], []])
            plate.play_all(program)
            for layer in range(3):
                octos = quarters_of_all(cut_octos(program, tools, layer))
                self.assertEqual(plate.away(layer), sorted(octos & all_quarters(17, 14)))

    def test_no_clamp_loses_a_quarter(self):
        source = random.Random(324)
        for _ in range(6):
            pocket, tools, clamps, plan = self.random_case(source)
            held = set().union(*[quarters_inside(clamp) for clamp in CLAMPS])
            program = cleared(pocket, 1, tools, CLAMPS, plan)[0]
            plate = Plate(30, 30, 1, tools, CLAMPS, [sorted(held)])
            self.assertIsNone(plate.play_all(program))
            self.assertFalse(held & set(plate.away(0)))


if __name__ == "__main__":
    unittest.main()
