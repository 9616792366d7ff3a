import random
import unittest

from plainly import STEPS, as_lists, as_tuples
from plainpaths import lists_in, plain_runs, random_points, shuffled, step_between

from millpath.grain import with_grain
from millpath.rings import rings
from millpath.runs import runs

FIELD = [(x, y) for x in range(30) for y in range(30)]
CROSS = [(0, 0)] + STEPS
COMB = [(x, 0) for x in range(12)] + [(x, y) for x in range(0, 12, 2) for y in range(1, 6)]
TWO_COMBS = COMB + [(x, 20 - y) for x, y in COMB]
POINTS = [
    [], [(4, -4)], [(0, 0), (5, 5)], [(x, 3) for x in range(6)], [(3, y) for y in range(-6, 3)],
    [(x, x) for x in range(8)], [(x, -x) for x in range(8)], [(x, y) for x in range(2) for y in range(2)],
    [(x, y) for x in range(5) for y in range(4)], CROSS, COMB, [(y, x) for x, y in COMB], TWO_COMBS,
    [(x, y) for x in range(7) for y in range(6) if x in (0, 6) or y in (0, 5)],
    [(x, y) for x in range(9) for y in range(8) if (x + y) % 2 == 0],
    [(x, y) for x in range(9) for y in range(8) if (x + y) % 2 == 1],
    [(x, abs(x)) for x in range(-5, 6)], [(abs(y), y) for y in range(-5, 6)],
]


def is_with(direction, grain):
    return min((direction - grain) % 8, (grain - direction) % 8) <= 2


class Runs(unittest.TestCase):
    def check(self, points):
        told = runs(points)
        self.assertEqual(told, plain_runs(points))
        self.check_form(told, points)
        return told

    def check_form(self, told, points):
        self.assertTrue(all(type(run) is list for run in [told] + told))
        self.assertTrue(all(type(corner) is tuple for run in told for corner in run))
        corners = []
        for run in told:
            is_closed = len(run) > 3 and run[0] == run[-1]
            corners += run[:-1] if is_closed else run
            self.assertTrue(all(step_between(*pair) is not None for pair in zip(run, run[1:])))
            if len(run) > 2 and not is_closed:
                self.assertIsNone(step_between(run[-1], run[0]))
        self.assertEqual(sorted(corners), sorted(map(tuple, points)))

    def test_none_and_single_points(self):
        self.assertEqual(runs([]), [])
        self.assertEqual(runs(()), [])
        self.assertEqual(runs([(5, -6)]), [[(5, -6)]])
        self.assertEqual(runs([(5, 0), (0, 9), (0, 2)]), [[(0, 2)], [(0, 9)], [(5, 0)]])

    def test_two_points_are_never_closed(self):
        for step in STEPS:
            self.assertEqual(runs([(0, 0), step]), [sorted([(0, 0), step])])

    def test_three_points_closed_and_not(self):
        self.assertEqual(runs([(0, 0), (1, 0), (0, 1)]), [[(0, 0), (1, 0), (0, 1), (0, 0)]])
        self.assertEqual(runs([(0, 0), (1, 0), (2, 0)]), [[(0, 0), (1, 0), (2, 0)]])
        self.assertEqual(runs([(0, 0), (1, 1), (0, 2)]), [[(0, 0), (1, 1), (0, 2)]])

    def test_a_box_and_an_edge_word_by_word(self):
        self.assertEqual(runs([(x, y) for x in range(3) for y in range(3)]), [[
            (0, 0), (1, 0), (2, 0), (2, 1), (2, 2), (1, 2), (0, 2), (0, 1), (1, 1), (0, 0)]])
        edge = [(0, 0), (1, 0), (2, 0), (2, 1), (2, 2), (1, 2), (0, 2), (0, 1)]
        self.assertEqual(runs(edge[::-1]), [edge + [(0, 0)]])
        self.assertEqual(runs([(0, 0), (1, 0), (2, 1), (2, -1), (2, 2), (1, 3)]), [
            [(0, 0), (1, 0), (2, 1), (2, 2), (1, 3)], [(2, -1)]])

    def test_the_least_direction_at_first(self):
        # The least point has the directions 7, 0, 1 and 2 alone about it.
        for least, there in ((0, (0, 1, 2, 7)), (1, (1, 2, 7)), (2, (2, 7)), (7, (7,))):
            told = runs([(0, 0)] + [STEPS[direction] for direction in there])
            self.assertEqual(told[0][1], STEPS[least])

    def test_each_turn_in_its_order(self):
        # Two steps to the east let all ends of the third be greater than the begin.
        order = [0, 1, 7, 2, 6, 3, 5]
        ends = [(2 + STEPS[turn][0], STEPS[turn][1]) for turn in order]
        for at, end in enumerate(ends):
            self.assertEqual(runs([(0, 0), (1, 0), (2, 0)] + ends[at:])[0][3], end)

    def test_turns_about_each_direction(self):
        order = [0, 1, 7, 2, 6, 3, 5]
        for first in range(8):
            for at in range(7):
                dx, dy = STEPS[first]
                ends = [(dx + STEPS[(first + turn) % 8][0], dy + STEPS[(first + turn) % 8][1]) for turn in order[at:]]
                self.check([(0, 0), (dx, dy)] + ends)

    def test_forms(self):
        for points in POINTS:
            self.check(points)

    def test_closed_and_ends_apart(self):
        ring = [(0, 0), (1, -1), (2, -1), (3, 0), (3, 1), (2, 2), (1, 2), (0, 1)]
        told = runs(ring)
        self.assertEqual(told, [[(0, 0), (0, 1), (1, 2), (2, 2), (3, 1), (3, 0), (2, -1), (1, -1), (0, 0)]])
        self.assertEqual(len(runs(ring[:1] + ring[2:])[0]), 7)
        self.assertEqual(runs(ring[:1] + ring[2:])[0][-1], (2, -1))

    def test_nine_hundred_points(self):
        told = runs(FIELD)
        self.check_form(told, FIELD)
        self.assertEqual(told, plain_runs(FIELD))
        board = [(x, y) for x, y in FIELD if (x + y) % 2]
        self.assertEqual(runs(board), plain_runs(board))

    def test_what_chance_brings(self):
        source = random.Random(111)
        for _ in range(200):
            points = random_points(source, source.randint(1, 12), source.randint(1, 12), source.random())
            self.check(points)

    def test_any_order_and_kinds(self):
        source = random.Random(112)
        for points in POINTS:
            wanted = runs(points)
            for handed in (points[::-1], as_lists(shuffled(source, points)), as_tuples(shuffled(source, points))):
                ahead = repr(handed)
                told = runs(handed)
                self.assertEqual(told, wanted)
                self.assertTrue(all(type(corner) is tuple for run in told for corner in run))
                self.assertEqual(repr(handed), ahead)

    def test_what_is_told_is_the_askers_own(self):
        for points in POINTS:
            told = runs(points)
            again = as_lists(told)
            self.assertEqual(len({id(part) for part in lists_in(told)}), len(told) + 1)
            for run in told:
                run.reverse()
                run.append("more")
            told.clear()
            self.assertEqual(as_lists(runs(points)), again)

    def test_the_very_list_changed(self):
        points = [[0, 0], [1, 0], [0, 1]]
        self.assertEqual(len(runs(points)), 1)
        points[2][1] = 7
        self.assertEqual(runs(points), [[(0, 0), (1, 0)], [(0, 7)]])


class WithGrainOfRuns(unittest.TestCase):
    def check(self, points, grain):
        for run in runs(points):
            pieces = with_grain(run, grain)
            for piece in pieces:
                for one, other in zip(piece, piece[1:]):
                    self.assertTrue(is_with(step_between(one, other), grain))
            # Turned as they lay, the pieces are the run again, end by end.
            at = 0
            for piece in pieces:
                part = run[at:at + len(piece)]
                self.assertIn(piece, (part, part[::-1]))
                at += len(piece) - 1
            self.assertEqual(at, len(run) - 1)
            self.assertEqual(run, runs(points)[runs(points).index(run)])

    def test_each_grain_of_forms_and_rings(self):
        source = random.Random(113)
        drawn = [random_points(source, 8, 8, 0.6) for _ in range(10)]
        for grain in range(8):
            for points in POINTS + drawn + rings(POINTS[8], 0, 1):
                self.check(points, grain)

    def test_a_closed_run_is_cut_from_its_first_corner_on(self):
        box = [(0, 0), (1, 0), (0, 1)]
        self.assertEqual(with_grain(runs(box)[0], 0), [[(0, 0), (1, 0)], [(0, 0), (0, 1), (1, 0)]])


if __name__ == "__main__":
    unittest.main()
