import itertools
import random
import unittest

from plainly import (BOX, CUT_BOX, L_FORM, MORE_ON_EDGES, ODD_THINGS, OUTLINES, SQUARE_ON_CORNER, STAIRS, TRIANGLE,
                     U_FORM, as_lists, as_tuples, begun_at, edge_points, is_inside, makes_outline, quarters_inside,
                     random_corners, random_outlines, shifted, views)

from millpath.outlines import goes_left, is_outline, quarters_within, shape, twice_area


def times(corners, factor):
    return [(x * factor, y * factor) for x, y in corners]


class IsOutline(unittest.TestCase):
    def check(self, corners, told):
        self.assertIs(is_outline(corners), told, corners)
        self.assertIs(is_outline(as_lists(corners)), told, corners)
        self.assertIs(is_outline(as_tuples(corners)), told, corners)

    def test_outlines_in_all_views(self):
        for outline in OUTLINES:
            for view in views(outline):
                for at in range(len(view)):
                    self.check(begun_at(view, at), True)

    def test_far_and_great_ones(self):
        for outline in OUTLINES:
            self.check(shifted(outline, -987654, 999000), True)
            self.check(times(outline, 77777), True)

    def test_two_corners_exchanged(self):
        for outline in (BOX, CUT_BOX, L_FORM, U_FORM, MORE_ON_EDGES, STAIRS):
            for one, other in itertools.combinations(range(len(outline)), 2):
                corners = list(outline)
                corners[one], corners[other] = corners[other], corners[one]
                self.check(corners, makes_outline(corners))
        self.check([(0, 0), (4, 3), (4, 0), (0, 3)], False)
        self.check([(0, 0), (4, 4), (4, 0), (0, 4)], False)

    def test_a_corner_twice(self):
        for outline in OUTLINES:
            for at in range(len(outline)):
                self.check(outline[:at] + [outline[at]] + outline[at:], False)
                self.check(outline + [outline[at]], False)
        self.check([(0, 0), (1, 0), (0, 0)], False)
        self.check([(0, 0), (0, 0), (0, 0)], False)

    def test_edges_that_go_back(self):
        self.check([(0, 0), (4, 0), (2, 0)], False)
        self.check([(0, 0), (4, 0), (4, 4), (4, 2), (0, 2)], False)
        self.check([(0, 0), (2, 0), (4, 0), (4, 4), (5, 5), (3, 3), (0, 3)], False)
        for view in views([(0, 0), (5, 0), (5, 5), (3, 5), (4, 5), (4, 6), (0, 6)]):
            for at in range(len(view)):
                self.check(begun_at(view, at), False)

    def test_edges_that_are_not_straight(self):
        self.check([(0, 0), (2, 1), (0, 3)], False)
        for outline in OUTLINES:
            for at in range(len(outline)):
                for off in ((7, 3), (-3, 8), (-5, -2)):
                    corners = list(outline)
                    corners[at] = (corners[at][0] + off[0], corners[at][1] + off[1])
                    self.check(corners, makes_outline(corners))
        self.check([(0, 0), (100000, 99999), (0, 99999)], False)

    def test_edges_that_cross(self):
        at_whole = [(0, 0), (4, 4), (4, 0), (0, 4)]
        at_half = [(0, 0), (3, 3), (3, 0), (0, 3)]
        upright = [(0, 1), (5, 1), (5, 3), (3, 3), (3, -1), (0, -1)]
        for corners in (at_whole, at_half, upright):
            for view in views(corners):
                for at in range(len(view)):
                    self.check(begun_at(view, at), False)
            self.check(times(corners, 99999), False)
        self.check([(0, 0), (99999, 99999), (99999, 0), (0, 99999)], False)

    def check_all_views(self, corners, told):
        self.assertNotIn(None, [edge_points(corners[at - 1], corners[at]) for at in range(len(corners))])
        for view in views(corners):
            for at in range(len(view)):
                self.check(begun_at(view, at), told)
        self.check(times(corners, 99999), told)

    def test_edges_that_touch_in_a_corner(self):
        self.check_all_views([(0, 0), (6, 0), (6, 2), (5, 2), (3, 0), (1, 2), (0, 2)], False)
        self.check_all_views([(0, 0), (6, 0), (6, 3), (5, 3), (3, 1), (1, 3), (0, 3)], True)
        self.check_all_views([(0, 0), (6, 6), (0, 6), (0, 5), (3, 5), (3, 3), (0, 3)], False)
        self.check_all_views([(0, 0), (6, 6), (0, 6), (0, 5), (3, 5), (3, 4), (1, 4), (1, 3), (0, 3)], True)
        self.check_all_views([(0, 0), (2, 2), (4, 0), (4, 4), (2, 2), (0, 4)], False)
        self.check_all_views([(0, 0), (2, 2), (4, 0), (4, 5), (2, 3), (0, 5)], True)

    def test_edges_that_lie_along(self):
        self.check_all_views([(0, 0), (1, 0), (2, 0)], False)
        self.check_all_views([(0, 0), (1, 1), (2, 2)], False)
        self.check_all_views([(0, 0), (2, 2), (3, 3), (1, 1)], False)
        self.check_all_views([(0, 0), (6, 0), (6, 4), (3, 4), (3, 0), (2, 0), (2, 4), (0, 4)], False)
        self.check_all_views([(0, 0), (4, 0), (4, 1), (3, 1), (3, 0), (1, 0)], False)
        self.check_all_views([(0, 0), (5, 0), (5, 1), (4, 0), (2, 0), (2, 2)], False)
        # On one line, but with room between.
        self.check_all_views([(0, 0), (2, 0), (2, 1), (4, 1), (4, 0), (6, 0), (6, 3), (0, 3)], True)
        self.check_all_views([(0, 0), (2, 2), (3, 2), (3, 3), (5, 5), (0, 5)], True)

    def test_what_chance_brings(self):
        source = random.Random(61)
        seen = {True: 0, False: 0}
        for _ in range(6000):
            corners = random_corners(source, 6)
            told = makes_outline(corners)
            seen[told] += 1
            self.check(corners, told)
        self.assertGreater(min(seen.values()), 200)

    def test_all_of_four_corners_in_a_small_field(self):
        field = [(x, y) for x in range(3) for y in range(3)]
        for corners in itertools.product(field, repeat=3):
            self.check(list(corners), makes_outline(list(corners)))
        for corners in itertools.product(field[:5], field, field, field):
            self.assertIs(is_outline(corners), makes_outline(list(corners)), corners)

    def test_too_few(self):
        for corners in ([], [(0, 0)], [(0, 0), (1, 0)]):
            self.check(corners, False)

    def test_parts_of_other_kinds(self):
        for at in range(3):
            for part in (None, True, 0, "ab", (), (0,), (0, 1, 0), (True, False), (0, True), (None, 1), ("0", 1),
                         (0.0, 1), ((0, 1), 1), {0: 1, 1: 1}, object()):
                corners = list(TRIANGLE)
                corners[at] = part
                self.assertIs(is_outline(corners), False, corners)
                self.assertIs(is_outline(tuple(corners)), False, corners)

    def test_things_that_are_nothing_of_the_kind(self):
        ring = []
        ring.extend([ring, ring, ring])
        for thing in ODD_THINGS + [ring, dict.fromkeys(TRIANGLE), set(TRIANGLE), iter(TRIANGLE), "abc"]:
            self.assertIs(is_outline(thing), False)

    def test_what_is_handed_in_stays(self):
        outline = as_lists(U_FORM)
        is_outline(outline)
        self.assertEqual(outline, as_lists(U_FORM))


class Areas(unittest.TestCase):
    def test_known_ones(self):
        self.assertEqual(twice_area(TRIANGLE), 1)
        self.assertEqual(twice_area(SQUARE_ON_CORNER), 4)
        self.assertEqual(twice_area(BOX), 24)
        self.assertIs(goes_left(TRIANGLE), True)
        self.assertIs(goes_left(list(reversed(TRIANGLE))), False)
        self.assertIs(goes_left(BOX), True)

    def test_either_way_about_and_begun_at_any_corner(self):
        source = random.Random(62)
        for outline in OUTLINES + random_outlines(source, 60, 8):
            twice = len(quarters_inside(outline)) // 2
            left = goes_left(outline)
            self.assertIn(left, (True, False))
            for at in range(len(outline)):
                begun = begun_at(outline, at)
                self.assertEqual(twice_area(begun), twice)
                self.assertEqual(twice_area(list(reversed(begun))), twice)
                self.assertIs(goes_left(begun), left)
                self.assertIs(goes_left(list(reversed(begun))), not left)
                self.assertIs(goes_left([(-x, y) for x, y in begun]), not left)
                self.assertIs(goes_left([(-y, x) for x, y in begun]), left)

    def test_left_is_where_the_inside_is(self):
        # Just to the left of an edge that goes east lies the south quarter of the cell at its corner.
        for outline in OUTLINES + random_outlines(random.Random(63), 60, 8):
            for at in range(len(outline)):
                (x, y), (u, v) = outline[at - 1], outline[at]
                if v == y and u > x:
                    self.assertIs(goes_left(outline), is_inside(outline, (x, y, 3)))

    def test_great_ones(self):
        for outline in OUTLINES:
            great = shifted(times(outline, 40000), -999999, 500000)
            self.assertEqual(twice_area(great), twice_area(outline) * 40000 * 40000)
            self.assertIs(goes_left(great), goes_left(outline))
        self.assertEqual(twice_area([(-999999, -999999), (999999, -999999), (999999, 999999)]), 1999998 ** 2)

    def test_lists_and_tuples_which_stay(self):
        for outline in OUTLINES:
            for handed in (as_lists(outline), as_tuples(outline)):
                ahead = repr(handed)
                self.assertEqual(twice_area(handed), twice_area(outline))
                self.assertIs(goes_left(handed), goes_left(outline))
                self.assertEqual(repr(handed), ahead)


class Within(unittest.TestCase):
    def test_least_ones(self):
        self.assertEqual(quarters_within(TRIANGLE), [(0, 0, 2), (0, 0, 3)])
        self.assertEqual(quarters_within(SQUARE_ON_CORNER), [
            (-1, -1, 0), (-1, -1, 1), (-1, 0, 0), (-1, 0, 3), (0, -1, 1), (0, -1, 2), (0, 0, 2), (0, 0, 3)])
        self.assertEqual(quarters_within([(0, 0), (2, 0), (1, 1)]), [(0, 0, 0), (0, 0, 3), (1, 0, 2), (1, 0, 3)])

    def test_each_by_itself(self):
        outlines = [view for outline in OUTLINES for view in views(outline)]
        outlines += random_outlines(random.Random(64), 300, 10)
        for outline in outlines:
            told = quarters_within(outline)
            self.assertEqual(told, sorted(quarters_inside(outline)))
            self.assertEqual(len(told), 2 * twice_area(outline))
            self.assertIs(type(told), list)
            self.assertTrue(all(type(quarter) is tuple for quarter in told))

    def test_moved(self):
        for outline in OUTLINES:
            for x, y in ((-300, -299), (280, -290), (-7, 5)):
                told = [(p + x, q + y, side) for p, q, side in quarters_within(outline)]
                self.assertEqual(quarters_within(shifted(outline, x, y)), told)

    def test_lists_and_tuples_which_stay(self):
        told = quarters_within(U_FORM)
        for handed in (as_lists(U_FORM), as_tuples(U_FORM)):
            ahead = repr(handed)
            again = quarters_within(handed)
            self.assertEqual(again, told)
            again.clear()
            self.assertEqual(quarters_within(handed), told)
            self.assertEqual(repr(handed), ahead)


class Shape(unittest.TestCase):
    def check(self, outline, islands):
        gone = set().union(*[quarters_inside(island) for island in islands])
        told = shape(outline, islands)
        self.assertEqual(told, sorted(quarters_inside(outline) - gone))
        self.assertEqual(shape(as_tuples(outline), as_lists(islands)), told)
        self.assertEqual(shape(as_lists(outline), as_tuples(islands)), told)
        for order in itertools.islice(itertools.permutations(islands), 4):
            self.assertEqual(shape(outline, list(order)), told)

    def test_none(self):
        for outline in OUTLINES:
            self.check(outline, [])

    def test_within_sticking_out_outside_holding_and_twice(self):
        field = [(0, 0), (12, 0), (12, 12), (0, 12)]
        within, more = shifted(CUT_BOX, 3, 3), shifted(BOX, 2, 5)
        out, outside = shifted(U_FORM, -4, 9), shifted(L_FORM, 20, -8)
        holding = [(-5, -5), (30, -5), (30, 30), (-5, 30)]
        for islands in ([within], [more], [out], [outside], [within, more], [within, TRIANGLE, out, outside],
                        [within, within], [shifted(TRIANGLE, 6, 6), within], [SQUARE_ON_CORNER],
                        [within, more, out, outside, TRIANGLE, STAIRS]):
            self.check(field, islands)
        for islands in ([field], [holding], [within, field, within], [list(reversed(field))]):
            self.check(field, islands)
            self.assertEqual(shape(field, islands), [])

    def test_an_island_that_holds_all_from_afar(self):
        self.assertEqual(shape(CUT_BOX, [[(-300, -300), (300, -300), (300, 300), (-300, 300)]]), [])

    def test_what_chance_brings(self):
        source = random.Random(65)
        found = random_outlines(source, 200, 12)
        for _ in range(60):
            self.check(source.choice(found), [source.choice(found) for _ in range(source.randint(0, 6))])

    def test_what_is_told_is_the_askers_own(self):
        outline, islands = as_lists(U_FORM), as_lists([TRIANGLE, BOX])
        told = shape(outline, islands)
        again = list(told)
        told.pop()
        self.assertEqual(shape(outline, islands), again)
        self.assertEqual((outline, islands), (as_lists(U_FORM), as_lists([TRIANGLE, BOX])))


if __name__ == "__main__":
    unittest.main()
