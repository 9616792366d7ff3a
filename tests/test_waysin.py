import random
import unittest

from plainly import STEPS, as_lists, as_tuples
from plainpaths import may_follow, plain_runs, plain_way_in

from millpath.waysin import way_in

ONE = [(4, -5)]
TWO = [(0, 0), (1, 1)]
LINE = [(x, 2) for x in range(7)]
CLOSED = [(0, 0), (1, 0), (2, 1), (1, 2), (0, 1), (0, 0)]
OVER_ITSELF = [(0, 0), (1, 0), (1, 1), (0, 0), (1, 0), (0, 0), (-1, 0)]
RUNS = [ONE, TWO, TWO[::-1], LINE, LINE[:3], CLOSED, OVER_ITSELF, OVER_ITSELF[::-1],
        plain_runs([(x, y) for x in range(5) for y in range(5)])[0]]


class WayIn(unittest.TestCase):
    def check(self, run, top, deep, slope):
        told = way_in(run, top, deep, slope)
        self.assertEqual(told, plain_way_in(run, top, deep, slope), (run, top, deep, slope))
        self.assertIs(type(told), list)
        self.assertTrue(all(type(place) is tuple for place in told))
        self.assertTrue(all(may_follow(one, other) for one, other in zip(told, told[1:])))
        self.assertEqual((told[0], told[-1]), (tuple(run[0]) + (top,), tuple(run[0]) + (deep,)))

    def test_one_corner(self):
        self.assertEqual(way_in(ONE, 0, 3, 9), [(4, -5, 0), (4, -5, 1), (4, -5, 2), (4, -5, 3)])
        self.assertEqual(way_in(ONE, 2, 3, 1), [(4, -5, 2), (4, -5, 3)])
        self.assertEqual(way_in([[4, -5]], 3, 3, 4), [(4, -5, 3)])

    def test_top_as_deep(self):
        for run in RUNS:
            for depth in range(7):
                for slope in (1, 4, 9):
                    self.assertEqual(way_in(run, depth, depth, slope), [run[0] + (depth,)])

    def test_words(self):
        self.assertEqual(way_in(TWO, 0, 1, 1), [(0, 0, 0), (1, 1, 1), (0, 0, 1)])
        self.assertEqual(way_in(TWO, 0, 1, 2), [(0, 0, 0), (1, 1, 0), (0, 0, 1)])
        self.assertEqual(way_in(TWO, 1, 2, 3), [(0, 0, 1), (1, 1, 1), (0, 0, 1), (1, 1, 2), (0, 0, 2)])
        self.assertEqual(way_in(LINE, 0, 2, 2), [
            (0, 2, 0), (1, 2, 0), (2, 2, 1), (3, 2, 1), (4, 2, 2), (3, 2, 2), (2, 2, 2), (1, 2, 2), (0, 2, 2)])
        self.assertEqual(way_in(LINE[:3], 0, 1, 5), [
            (0, 2, 0), (1, 2, 0), (2, 2, 0), (1, 2, 0), (0, 2, 0), (1, 2, 1), (0, 2, 1)])

    def test_a_closed_run_goes_back_from_its_last_place_too(self):
        self.assertEqual(way_in(CLOSED, 0, 1, 6), [
            (0, 0, 0), (1, 0, 0), (2, 1, 0), (1, 2, 0), (0, 1, 0), (0, 0, 0), (0, 1, 1),
            (1, 2, 1), (2, 1, 1), (1, 0, 1), (0, 0, 1)])
        self.assertEqual(way_in(CLOSED, 0, 1, 5)[4:], [
            (0, 1, 0), (0, 0, 1), (0, 1, 1), (1, 2, 1), (2, 1, 1), (1, 0, 1), (0, 0, 1)])

    def test_each_slope_and_depth(self):
        for run in RUNS:
            for slope in range(1, 10):
                for top in range(7):
                    for deep in range(top, 7):
                        self.check(run, top, deep, slope)

    def test_many_turns_at_either_end(self):
        told = way_in(TWO, 0, 6, 9)
        self.assertEqual(len(told), 55)
        self.assertEqual([place[:2] for place in told], (TWO * 28)[:55])
        self.assertEqual([place[2] for place in told], [at // 9 for at in range(55)])
        three = way_in(LINE[:3], 0, 6, 9)
        self.assertEqual([place[0] for place in three], ([0, 1, 2, 1] * 14)[:55] + [1, 0])

    def test_what_chance_brings(self):
        source = random.Random(131)
        for _ in range(200):
            run = [(source.randint(-300, 300), source.randint(-300, 300))]
            for _ in range(source.randint(0, 30)):
                dx, dy = source.choice(STEPS)
                run.append((run[-1][0] + dx, run[-1][1] + dy))
            top = source.randint(0, 6)
            self.check(run, top, source.randint(top, 6), source.randint(1, 9))

    def test_a_long_run(self):
        self.check([(x, x % 2) for x in range(1000)], 0, 6, 9)

    def test_kinds_the_run_stays_and_the_answer_is_the_askers_own(self):
        for run in RUNS:
            wanted = way_in(run, 1, 4, 3)
            for handed in (as_lists(run), as_tuples(run), list(run), tuple(as_lists(run))):
                ahead = repr(handed)
                told = way_in(handed, 1, 4, 3)
                self.assertEqual(told, wanted)
                self.assertTrue(all(type(place) is tuple for place in told))
                told.append("more")
                self.assertEqual(way_in(handed, 1, 4, 3), wanted)
                self.assertEqual(repr(handed), ahead)


if __name__ == "__main__":
    unittest.main()
