import copy
import random
import unittest

from plainjobs import is_paper, random_jobs, random_thing, spoiled
from plainly import ODD_THINGS, as_lists, as_tuples

from millpath.jobcheck import shows_bound
from millpath.jobs import bound_of, least_takes

# Takes of tool 0, 1, 0, 1 in turns; job 4 waits for tool 2 and needs nothing.
JOBS = [(0, []), (1, [0]), (0, [1]), (1, [2]), (2, [])]
PAPER = [
    [(0,), (4,)],
    [(0, 1), (0, 4)],
    [(0, 1, 2), (0, 1, 4)],
    [(0, 1, 2, 3), (0, 1, 2, 4)],
]
PARTS = [None, True, False, 0, 1, 2, 3, 4, 5, -1, 10 ** 30, "", "0", "paper", (), [], (0,), (0, 1), (0, 1, 2, 3, 4)]


class ShowsBound(unittest.TestCase):
    def shown(self, jobs, number, paper):
        ahead = copy.deepcopy((jobs, paper))
        told = shows_bound(jobs, number, paper)
        self.assertIs(told, is_paper(jobs, number, paper))
        self.assertEqual((jobs, paper), ahead)
        return told

    def test_a_paper_by_hand(self):
        self.assertEqual(least_takes(JOBS)[0], 5)
        self.assertTrue(self.shown(JOBS, 5, PAPER))
        for number in (0, 1, 2, 3, 4, 6, 7, 100, 10 ** 20):
            self.assertFalse(self.shown(JOBS, number, PAPER))

    def test_a_papers_beginning(self):
        for many in range(4):
            self.assertTrue(self.shown(JOBS, many + 1, PAPER[:many]))
            self.assertFalse(self.shown(JOBS, many, PAPER[:many + 1]))
            self.assertFalse(self.shown(JOBS, many + 2, PAPER[:many]))

    def test_the_first_list_is_held_against_each_tool(self):
        self.assertFalse(self.shown(JOBS, 2, [[(0,)]]))
        self.assertFalse(self.shown(JOBS, 2, [[(4,)]]))
        self.assertFalse(self.shown(JOBS, 2, [[]]))
        self.assertFalse(self.shown(JOBS, 2, [[()]]))
        self.assertTrue(self.shown(JOBS, 2, [[(0, 4)]]))
        self.assertTrue(self.shown(JOBS, 2, [[(0, 1, 2, 4), ()]]))

    def test_number_nought_and_one(self):
        for jobs in (JOBS, [(0, [])], [(7, []), (7, [0])]):
            for number in (0, 1):
                for paper in ([], ()):
                    self.assertTrue(self.shown(jobs, number, paper))
                for paper in ([[]], [()], ((),), PAPER, PAPER[:1], [[()]], None, False, 0, "", "x"):
                    self.assertFalse(self.shown(jobs, number, paper))

    def test_no_jobs(self):
        for jobs in ([], ()):
            self.assertTrue(self.shown(jobs, 0, []))
            self.assertTrue(self.shown(jobs, 0, ()))
            for number in (1, 2, 3):
                for paper in ([], (), [[]], [()], [[()]], [[], []], [[()], [()]], None, PAPER[:number - 1]):
                    self.assertFalse(self.shown(jobs, number, paper))

    def test_a_tuple_dropped(self):
        for at in range(4):
            for which in range(2):
                paper = copy.deepcopy(PAPER)
                del paper[at][which]
                self.assertFalse(self.shown(JOBS, 5, paper))

    def test_a_tuple_of_all_jobs(self):
        for at in range(4):
            paper = copy.deepcopy(PAPER)
            paper[at].append((0, 1, 2, 3, 4))
            self.assertFalse(self.shown(JOBS, 5, paper))
            paper[at][:2] = []
            self.assertFalse(self.shown(JOBS, 5, paper))
        for jobs in ([(0, [])], [(0, []), (0, [])]):
            self.assertFalse(self.shown(jobs, 2, [[tuple(range(len(jobs)))]]))

    def test_more_tuples_than_needed(self):
        paper = copy.deepcopy(PAPER)
        paper[0].append(())
        self.assertTrue(self.shown(JOBS, 5, paper))
        paper[1] += [(0, 1), (0,), ()]
        self.assertTrue(self.shown(JOBS, 5, paper))
        paper[3].append((1, 2, 3, 4))
        self.assertTrue(self.shown(JOBS, 5, paper))
        paper[2].append((1, 2, 4))
        self.assertTrue(self.shown(JOBS, 5, paper))
        paper[2].append((0, 2, 4))
        self.assertFalse(self.shown(JOBS, 5, paper))

    def test_a_tuple_that_the_next_list_does_not_hold(self):
        for at in range(3):
            paper = copy.deepcopy(PAPER)
            paper[at].append((0, 1, 2, 3))
            self.assertFalse(self.shown(JOBS, 5, paper))

    def test_a_tool_goes_on_again_and_again(self):
        jobs = [(0, [1]), (0, [2]), (0, []), (1, [0])]
        self.assertTrue(self.shown(jobs, 2, [[(0, 1, 2)]]))
        for part in ((2,), (1, 2), (0, 2), (0, 1)):
            self.assertFalse(self.shown(jobs, 2, [[part, (3,)]]))
        self.assertFalse(self.shown([(0, [1]), (0, [])], 2, [[(1,)]]))

    def test_jobs_done_without_what_they_need(self):
        jobs = [(0, []), (1, [0]), (0, [1])]
        self.assertTrue(self.shown(jobs, 3, [[(0,)], [(0, 1)]]))
        self.assertFalse(self.shown(jobs, 3, [[(0,), (1,)], [(0, 1)]]))
        self.assertTrue(self.shown(jobs, 3, [[(0,), (2,)], [(0, 1), (0, 2)]]))

    def test_wrong_numbers_in_tuples(self):
        for wrong in ((4, 0), (0, 0, 4), (0, 4, 4), (0, 4, 5), (-1, 0, 4), (False, 4), (0, 4, True), (0, True, 4),
                      (0, None, 4), (0, "1", 4), ("04"), (0, (1,), 4), (0, 4.0), 4, None, "", True, ((0, 4),),
                      (0, 10 ** 30), (-10 ** 30, 0, 4)):
            self.assertFalse(self.shown(JOBS, 2, [[wrong]]))
            self.assertFalse(self.shown(JOBS, 2, [[(0, 4), wrong]]))
            self.assertFalse(self.shown(JOBS, 5, PAPER[:1] + [PAPER[1] + [wrong]] + PAPER[2:]))

    def test_lists_more_and_less(self):
        for at in range(5):
            self.assertFalse(self.shown(JOBS, 5, PAPER[:at] + PAPER[at + 1:] if at < 4 else PAPER + [[]]))
            self.assertFalse(self.shown(JOBS, 5, PAPER[:at] + [[(0, 1)]] + PAPER[at:]))
            self.assertFalse(self.shown(JOBS, 6, PAPER[:at] + PAPER[max(at - 1, 0):]))

    def test_kinds(self):
        for jobs in (JOBS, as_lists(JOBS), as_tuples(JOBS)):
            for paper in (as_lists(PAPER), as_tuples(PAPER), tuple(as_lists(PAPER)), [as_tuples(part) for part in PAPER]):
                self.assertTrue(self.shown(jobs, 5, paper))

    def test_the_papers_that_are_told(self):
        source = random.Random(211)
        for _ in range(60):
            jobs = random_jobs(source, source.randint(1, 7), [0, 1, 2, 30], source.choice([0, 0.2, 0.5]))
            paper, number = bound_of(jobs), least_takes(jobs)[0]
            for other in range(number + 3):
                self.assertIs(self.shown(jobs, other, paper), other == number or (other == 0 and not paper))
                if 0 < other <= number:
                    self.assertTrue(self.shown(jobs, other, paper[:other - 1]))

    def test_no_paper_shows_more_than_the_least(self):
        source = random.Random(212)
        for _ in range(300):
            jobs = random_jobs(source, 3, [0, 1], 0.3)
            number = least_takes(jobs)[0] + 1
            paper = [[tuple(sorted(source.sample(range(3), source.randint(0, 2)))) for _ in range(source.randint(1, 7))]
                     for _ in range(number - 1)]
            self.assertFalse(self.shown(jobs, number, paper))

    def test_odd_things(self):
        for thing in ODD_THINGS:
            for number in range(5):
                for paper in (thing, [thing], [[thing]], [[[thing]]], [thing, thing], [[(0, 4)], thing]):
                    self.shown_odd(number, paper)

    def shown_odd(self, number, paper):
        is_none = isinstance(paper, (list, tuple)) and len(paper) == 0
        self.assertIs(shows_bound(JOBS, number, paper), is_none and number < 2)

    def test_things_of_any_shape(self):
        source = random.Random(213)
        for _ in range(3000):
            self.shown(JOBS, source.randrange(5), random_thing(source, 6, PARTS))

    def test_papers_spoiled_by_chance(self):
        source = random.Random(214)
        outcomes = [self.shown(JOBS, 5, spoiled(source, PAPER, PARTS)) for _ in range(4000)]
        self.assertIn(True, outcomes)
        self.assertIn(False, outcomes)

    def test_ten_jobs(self):
        for jobs in ([(at, []) for at in range(10)], [(at % 2, [at - 1] if at else []) for at in range(10)]):
            paper = bound_of(jobs)
            self.assertIs(shows_bound(jobs, 10, paper), True)
            for at in range(9):
                self.assertIs(shows_bound(jobs, 10, paper[:at] + [paper[at][1:]] + paper[at + 1:]), False)


if __name__ == "__main__":
    unittest.main()
