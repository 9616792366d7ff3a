import random
import unittest

from plainly import STEPS, as_lists, as_tuples

from millpath.grain import with_grain


def walk(start, directions):
    """A run from a corner by some directions."""
    run = [start]
    for direction in directions:
        run.append((run[-1][0] + STEPS[direction][0], run[-1][1] + STEPS[direction][1]))
    return run


def lie(direction, grain):
    turn = min((direction - grain) % 8, (grain - direction) % 8)
    return "with" if turn <= 1 else "across" if turn == 2 else "against"


def pieces_of(start, directions, grain):
    """The pieces, each as long as the words of the document let it be."""
    run, told, begin = walk(start, directions), [], 0
    while True:
        end = begin
        while end < len(directions):
            lies = {lie(direction, grain) for direction in directions[begin:end + 1]}
            if {"with", "against"} <= lies:
                break
            end += 1
        piece = run[begin:end + 1]
        if "against" in {lie(direction, grain) for direction in directions[begin:end]}:
            piece.reverse()
        told.append(piece)
        if end == len(directions):
            return told
        begin = end


class WithGrain(unittest.TestCase):
    def check(self, start, directions, grain):
        run = walk(start, directions)
        told = with_grain(run, grain)
        self.assertEqual(told, pieces_of(start, directions, grain), (start, directions, grain))
        self.assertIs(type(told), list)
        self.assertTrue(all(type(piece) is list for piece in told))
        self.assertTrue(all(type(corner) is tuple for piece in told for corner in piece))
        self.assertEqual(with_grain(as_lists(run), grain), told)
        self.assertEqual(with_grain(as_tuples(run), grain), told)

    def test_one_corner(self):
        for grain in range(8):
            self.assertEqual(with_grain([(4, -5)], grain), [[(4, -5)]])
            self.assertEqual(with_grain(([4, -5],), grain), [[(4, -5)]])

    def test_one_step_in_each_direction(self):
        for grain in range(8):
            for direction in range(8):
                run = walk((0, 0), [direction])
                turned = (direction - grain) % 8 in (3, 4, 5)
                self.assertEqual(with_grain(run, grain), [run[::-1] if turned else run])

    def test_straight_ones(self):
        for grain in range(8):
            for direction in range(8):
                self.check((-3, 8), [direction] * 6, grain)

    def test_steps_across_between(self):
        self.assertEqual(with_grain([(0, 0), (0, 1), (1, 1), (1, 2), (0, 2), (0, 3)], 0),
                         [[(0, 0), (0, 1), (1, 1), (1, 2)], [(0, 3), (0, 2), (1, 2)]])
        self.assertEqual(with_grain([(0, 0), (0, 1), (0, 2), (-1, 2), (-1, 3), (0, 3)], 0),
                         [[(-1, 3), (-1, 2), (0, 2), (0, 1), (0, 0)], [(-1, 3), (0, 3)]])
        self.assertEqual(with_grain([(0, 0), (0, 1), (0, 2)], 0), [[(0, 0), (0, 1), (0, 2)]])
        for grain in range(8):
            self.check((1, 1), [0, 2, 0, 2, 4, 2, 4, 2, 0], grain)

    def test_every_run_of_three_steps(self):
        for grain in range(8):
            for number in range(512):
                self.check((0, 0), [number // 64, number // 8 % 8, number % 8], grain)

    def test_closed_ones(self):
        for grain in range(8):
            for directions in ([0, 2, 4, 6], [0, 0, 2, 2, 4, 4, 6, 6], [1, 3, 5, 7], [7, 0, 1, 2, 3, 4, 5, 6]):
                for at in range(len(directions)):
                    self.check((5, -5), directions[at:] + directions[:at], grain)
        self.assertEqual(with_grain([(0, 0), (1, 0), (1, 1), (0, 1), (0, 0)], 0),
                         [[(0, 0), (1, 0), (1, 1)], [(0, 0), (0, 1), (1, 1)]])

    def test_over_their_own_corners(self):
        for grain in range(8):
            self.check((0, 0), [0, 4, 0, 4, 4], grain)
            self.check((0, 0), [0, 2, 4, 6] * 3, grain)

    def test_what_chance_brings(self):
        source = random.Random(71)
        for _ in range(300):
            directions = [source.randrange(8) for _ in range(source.randint(0, 40))]
            self.check((source.randint(-300, 300), source.randint(-300, 300)), directions, source.randrange(8))

    def test_a_long_one(self):
        source = random.Random(72)
        self.check((0, 0), [source.randrange(8) for _ in range(999)], 3)

    def test_what_is_handed_in_stays_and_what_is_told_is_the_askers_own(self):
        run = as_lists(walk((0, 0), [0, 0, 4, 2, 0]))
        ahead = as_lists(run)
        told = with_grain(run, 0)
        again = as_lists(told)
        self.assertEqual(len({id(piece) for piece in told}), len(told))
        for piece in told:
            piece.append("more")
        told.pop()
        self.assertEqual(as_lists(with_grain(run, 0)), again)
        self.assertEqual(run, ahead)
        single = walk((0, 0), [0, 0])
        self.assertIsNot(with_grain(single, 0)[0], single)


if __name__ == "__main__":
    unittest.main()
