import random
import unittest

from plainly import (ODD_THINGS, all_bounds_met, as_lists, octo_around, points_in, quarters_of, random_octo)

from millpath.octos import added, is_octo, moved, octo_of, quarters_in

FLAT = [octo_around(corners) for corners in (
    [(2, -3)], [(0, 0), (5, 0)], [(1, 1), (1, 9)], [(0, 0), (4, 4)], [(0, 4), (4, 0)])]


def random_corners(source, most):
    return [(source.randint(-most, most), source.randint(-most, most)) for _ in range(source.randint(1, 7))]


class OctoOf(unittest.TestCase):
    def test_known_ones(self):
        self.assertEqual(octo_of([(3, -5)]), (3, 3, -5, -5, -2, -2, 8, 8))
        self.assertEqual(octo_of([(0, 0), (4, 4)]), (0, 4, 0, 4, 0, 8, 0, 0))
        self.assertEqual(octo_of([(0, 0), (2, 1)]), (0, 2, 0, 1, 0, 3, 0, 1))
        self.assertEqual(octo_of([(99999999, -12345678)]),
                         (99999999, 99999999, -12345678, -12345678, 87654321, 87654321, 112345677, 112345677))

    def test_least_in_any_order_with_some_twice(self):
        source = random.Random(51)
        for most in (3, 300, 99999999):
            for _ in range(60):
                corners = random_corners(source, most)
                told = octo_around(corners)
                self.assertEqual(octo_of(corners), told)
                again = corners + corners[:2]
                source.shuffle(again)
                self.assertEqual(octo_of(again), told)
                self.assertIs(is_octo(told), True)

    def test_lists_and_tuples_which_stay(self):
        corners = [(0, 3), (5, -2), (1, 1)]
        for handed in (corners, tuple(corners), as_lists(corners), tuple(as_lists(corners))):
            ahead = repr(handed)
            told = octo_of(handed)
            self.assertEqual(told, octo_around(corners))
            self.assertIs(type(told), tuple)
            self.assertEqual(repr(handed), ahead)


class IsOcto(unittest.TestCase):
    def check(self, parts, told):
        self.assertIs(is_octo(tuple(parts)), told, parts)
        self.assertIs(is_octo(list(parts)), told, parts)

    def test_octos_flat_ones_and_points(self):
        source = random.Random(52)
        for octo in FLAT + [random_octo(source, -most, most, most) for most in (4, 99, 10 ** 9) for _ in range(30)]:
            self.check(octo, True)

    def test_bounds_a_little_greater_or_less(self):
        source = random.Random(53)
        seen = set()
        for _ in range(250):
            octo = random_octo(source, -4, 4, 4)
            for at in range(8):
                for more in (-2, -1, 1, 2):
                    parts = list(octo)
                    parts[at] += more
                    told = all_bounds_met(parts)
                    seen.add(told)
                    self.check(parts, told)
        self.assertEqual(seen, {True, False})

    def test_a_bound_too_wide_at_each_place(self):
        for octo in FLAT + [octo_around([(0, 0), (9, 0), (0, 7), (3, 3)])]:
            for at in range(8):
                parts = list(octo)
                parts[at] += 100 if at % 2 else -100
                self.check(parts, False)

    def test_any_eight_small_numbers(self):
        source = random.Random(54)
        for _ in range(3000):
            w, s, a, c = [source.randint(-2, 2) for _ in range(4)]
            more = [source.randint(-1, 3) for _ in range(4)]
            parts = (w, w + more[0], s, s + more[1], a, a + more[2], c, c + more[3])
            self.check(parts, all_bounds_met(parts))

    def test_met_at_halves_alone(self):
        # x + y = 1 and x - y = 0 meet at a half, where no bound of x or y stands.
        self.check((0, 1, 0, 1, 1, 1, 0, 0), False)
        self.check((0, 1, 0, 1, 1, 1, -1, 1), True)

    def test_lesser_and_greater_exchanged(self):
        self.check((1, 0, 0, 1, 0, 1, 0, 1), False)
        box = octo_around([(0, 0), (3, 3), (0, 3), (3, 0)])
        for at in range(0, 8, 2):
            parts = list(box)
            parts[at], parts[at + 1] = parts[at + 1], parts[at]
            self.check(parts, False)

    def test_seven_and_nine_numbers(self):
        self.check((0,) * 7, False)
        self.check((0,) * 8, True)
        self.check((0,) * 9, False)

    def test_parts_of_other_kinds(self):
        for at in range(8):
            for part in (True, False, None, "0", 0.0, [0], (0,), {}):
                parts = [0] * 8
                parts[at] = part
                self.check(parts, False)

    def test_things_that_are_nothing_of_the_kind(self):
        for thing in ODD_THINGS:
            self.assertIs(is_octo(thing), False, thing)
        self.assertIs(is_octo({number: 0 for number in range(8)}), False)
        self.assertIs(is_octo("00000000"), False)


class AddedAndMoved(unittest.TestCase):
    def test_added_against_all_sums_of_corners(self):
        source = random.Random(55)
        for _ in range(150):
            one, other = random_octo(source, -5, 5, 4), random_octo(source, -5, 5, 4)
            corners = [[(x // 2, y // 2) for x, y in points_in(octo) if x % 2 == y % 2 == 0] for octo in (one, other)]
            sums = [(x + p, y + q) for x, y in corners[0] for p, q in corners[1]]
            told = added(one, other)
            self.assertEqual(told, octo_around(sums))
            self.assertIs(type(told), tuple)
            self.assertEqual(added(other, one), told)
            self.assertEqual(added(list(one), list(other)), told)
            self.assertTrue(is_octo(told))

    def test_moved_against_each_corner(self):
        source = random.Random(56)
        for most in (5, 300, 10 ** 8):
            for _ in range(50):
                corners = random_corners(source, most)
                x, y = source.randint(-most, most), source.randint(-most, most)
                octo = octo_around(corners)
                told = moved(octo, (x, y))
                self.assertEqual(told, octo_around([(p + x, q + y) for p, q in corners]))
                self.assertEqual(moved(told, (-x, -y)), octo)
                self.assertEqual(moved(list(octo), [x, y]), told)
                self.assertIs(type(moved(list(octo), [x, y])), tuple)

    def test_what_is_handed_in_stays(self):
        one, other, corner = list(FLAT[1]), list(FLAT[3]), [3, -4]
        added(one, other)
        moved(one, corner)
        self.assertEqual((tuple(one), tuple(other), corner), (FLAT[1], FLAT[3], [3, -4]))


class QuartersIn(unittest.TestCase):
    def test_each_by_itself(self):
        source = random.Random(57)
        for _ in range(300):
            octo = random_octo(source, -14, 14, source.randint(1, 14))
            told = quarters_in(octo)
            self.assertEqual(told, sorted(quarters_of(octo)))
            self.assertIs(type(told), list)
            self.assertTrue(all(type(quarter) is tuple for quarter in told))

    def test_a_cell(self):
        for x, y in ((0, 0), (-4, 7), (299, -300)):
            octo = octo_around([(x, y), (x + 1, y), (x, y + 1), (x + 1, y + 1)])
            self.assertEqual(quarters_in(octo), [(x, y, 0), (x, y, 1), (x, y, 2), (x, y, 3)])

    def test_halves_of_a_cell(self):
        self.assertEqual(quarters_in(octo_around([(0, 0), (1, 0), (0, 1)])), [(0, 0, 2), (0, 0, 3)])
        self.assertEqual(quarters_in(octo_around([(1, 1), (1, 0), (0, 1)])), [(0, 0, 0), (0, 0, 1)])
        self.assertEqual(quarters_in(octo_around([(0, 0), (0, 1), (1, 1)])), [(0, 0, 1), (0, 0, 2)])
        self.assertEqual(quarters_in(octo_around([(0, 0), (1, 0), (1, 1)])), [(0, 0, 0), (0, 0, 3)])

    def test_flat_ones_have_none(self):
        for octo in FLAT + [tuple(bound * 10 ** 8 for bound in octo) for octo in FLAT]:
            self.assertEqual(quarters_in(octo), [])

    def test_great_ones_and_long_ones(self):
        for corners in ([(0, 0), (27, 27), (27, 0), (0, 27)], [(0, 0), (290, 290), (291, 290)],
                        [(0, 0), (290, -290), (0, 1)], [(-5, -300), (-4, 300)]):
            octo = octo_around(corners)
            self.assertEqual(quarters_in(octo), sorted(quarters_of(octo)))

    def test_moved_far(self):
        source = random.Random(58)
        for _ in range(40):
            octo = random_octo(source, -6, 6, 6)
            x, y = source.randint(-10 ** 8, 10 ** 8), source.randint(-10 ** 8, 10 ** 8)
            far = [(p + x, q + y, side) for p, q, side in quarters_in(octo)]
            self.assertEqual(quarters_in(moved(octo, (x, y))), far)

    def test_what_is_told_is_the_askers_own(self):
        octo = list(octo_around([(0, 0), (3, 2), (1, 4)]))
        told = quarters_in(octo)
        again = list(told)
        told.append("more")
        self.assertEqual(quarters_in(octo), again)
        self.assertIsNot(quarters_in(FLAT[0]), quarters_in(FLAT[0]))
        self.assertEqual(tuple(octo), octo_around([(0, 0), (3, 2), (1, 4)]))


if __name__ == "__main__":
    unittest.main()
