import random
import unittest

from plainly import as_lists, as_tuples, octo_area, octo_around, quarters_of_all, random_octo

from millpath.unions import area_of

CELL = octo_around([(0, 0), (1, 0), (0, 1), (1, 1)])
FAR = 10 ** 8


def box(west, south, east, north):
    return octo_around([(west, south), (east, south), (west, north), (east, north)])


def times(octo, factor):
    return tuple(bound * factor for bound in octo)


class AreaOf(unittest.TestCase):
    def test_none(self):
        self.assertEqual(area_of([]), 0)
        self.assertEqual(area_of(()), 0)

    def test_one_cell_and_parts_of_it(self):
        self.assertEqual(area_of([CELL]), 4)
        self.assertEqual(area_of([octo_around([(0, 0), (1, 0), (0, 1)])]), 2)
        self.assertEqual(area_of([octo_around([(1, 0), (0, 1), (-1, 0), (0, -1)])]), 8)

    def test_flat_ones_and_points(self):
        flat = [octo_around([(3, 3)]), octo_around([(0, 5), (9, 5)]), octo_around([(5, -2), (5, 7)]),
                octo_around([(0, 0), (8, 8)]), octo_around([(0, 8), (8, 0)])]
        for octo in flat:
            self.assertEqual(area_of([octo]), 0)
        self.assertEqual(area_of(flat), 0)
        self.assertEqual(area_of(flat + [CELL]), 4)
        self.assertEqual(area_of([times(octo, FAR) for octo in flat]), 0)

    def test_apart_touching_overlapping_holding_and_twice(self):
        one = box(0, 0, 4, 4)
        self.assertEqual(area_of([one, box(9, 9, 11, 11)]), 64 + 16)
        self.assertEqual(area_of([one, box(0, 9, 4, 10)]), 64 + 16)
        self.assertEqual(area_of([one, box(4, 0, 6, 4)]), 64 + 32)
        self.assertEqual(area_of([one, box(0, 4, 4, 6)]), 64 + 32)
        self.assertEqual(area_of([one, box(4, 4, 6, 6)]), 64 + 16)
        self.assertEqual(area_of([one, box(2, 2, 6, 6)]), 64 + 64 - 16)
        self.assertEqual(area_of([one, box(1, 1, 3, 3)]), 64)
        self.assertEqual(area_of([one, one, list(one)]), 64)

    def test_crossing_at_halves(self):
        rising = octo_around([(0, 0), (5, 5), (1, 0), (6, 5)])
        falling = octo_around([(0, 4), (4, 0), (1, 4), (5, 0)])
        self.assertEqual(area_of([rising, falling]), len(quarters_of_all([rising, falling])))

    def test_one_of_any_size(self):
        source = random.Random(41)
        for spread in (1, 3, 9, 200, 10 ** 5, 10 ** 9 - 1):
            for _ in range(40):
                octo = random_octo(source, -spread, spread, spread)
                self.assertEqual(area_of([octo]), octo_area(octo))

    def test_quarter_by_quarter(self):
        source = random.Random(42)
        for _ in range(300):
            octos = [random_octo(source, -12, 12, source.randint(1, 9)) for _ in range(source.randint(1, 12))]
            count = len(quarters_of_all(octos))
            self.assertEqual(area_of(octos), count)
            source.shuffle(octos)
            self.assertEqual(area_of(octos), count)

    def test_sixty_at_small_numbers(self):
        source = random.Random(43)
        for spread in (6, 40, 120):
            octos = [random_octo(source, -200, 200, spread) for _ in range(60)]
            self.assertEqual(area_of(octos), len(quarters_of_all(octos)))

    def test_twelve_at_nine_figures(self):
        source = random.Random(44)
        for _ in range(12):
            octos = [random_octo(source, -9, 9, source.randint(2, 9)) for _ in range(12)]
            count = len(quarters_of_all(octos))
            self.assertEqual(area_of([times(octo, FAR) for octo in octos]), count * FAR * FAR)

    def test_twelve_anywhere_at_nine_figures(self):
        source = random.Random(45)
        most = 10 ** 9 - 1
        for _ in range(6):
            octos = [random_octo(source, -most, most, most) for _ in range(12)]
            whole = area_of(octos)
            source.shuffle(octos)
            self.assertEqual(area_of(octos), whole)
            # Turned by a quarter of a round, the bounds change places; the area stays.
            turned = [(-n, -s, w, e, c, d, -b, -a) for w, e, s, n, a, b, c, d in octos]
            self.assertEqual(area_of(turned), whole)
            self.assertLessEqual(whole, sum(octo_area(octo) for octo in octos))
            self.assertGreaterEqual(whole, max(octo_area(octo) for octo in octos))

    def test_far_apart_ones_are_summed(self):
        source = random.Random(46)
        octos = []
        for number in range(12):
            near = random_octo(source, -9, 9, 7)
            x, y = 70000000 * number - 400000000, source.randint(-900000000, 900000000)
            shift = (x, x, y, y, x + y, x + y, x - y, x - y)
            octos.append(tuple(bound + more for bound, more in zip(near, shift)))
        self.assertEqual(area_of(octos), sum(octo_area(octo) for octo in octos))

    def test_lists_and_tuples_which_stay(self):
        source = random.Random(47)
        octos = [random_octo(source, -9, 9, 6) for _ in range(8)]
        count = len(quarters_of_all(octos))
        for handed in (as_lists(octos), as_tuples(octos), list(octos), tuple(as_lists(octos))):
            ahead = repr(handed)
            self.assertEqual(area_of(handed), count)
            self.assertEqual(area_of(handed), count)
            self.assertEqual(repr(handed), ahead)


if __name__ == "__main__":
    unittest.main()
