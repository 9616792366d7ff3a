import copy
import random
import unittest

from plainjobs import is_order, is_paper, plain_least, random_jobs, takes_in
from plainly import as_lists, as_tuples
from plainpaths import lists_in, shuffled

from millpath.errors import MillError, Round
from millpath.jobcheck import shows_bound
from millpath.jobs import bound_of, least_takes

CHAIN = [(at % 2, [at - 1] if at else []) for at in range(10)]
UNLIKE = [(at, []) for at in range(10)]
LAYERS = [(at % 3, []) for at in range(5)] + [(at % 2, [0, 1, 2, 3, 4]) for at in range(5)]
RINGS = [
    [(0, [0])],
    [(0, []), (1, [1])],
    [(0, [1]), (0, [0])],
    [(0, [1]), (1, [0])],
    [(0, [1]), (1, [2]), (2, [0])],
    [(3, []), (0, [2]), (1, [1]), (3, [])],
    [(0, []), (1, [0, 3]), (0, [1]), (1, [2]), (2, [])],
    [(0, [4]), (1, [0]), (0, [1]), (1, [2]), (2, [3])],
    [(0, [at - 1]) for at in range(10, 0, -1)][::-1][1:] + [(0, [0, 9])],
    [(at, [(at + 1) % 10]) for at in range(10)],
    [(0, []), (0, [0]), (0, [1, 3]), (0, [2]), (0, [1])],
]


class LeastTakes(unittest.TestCase):
    def check(self, jobs):
        told = least_takes(jobs)
        self.assertEqual(told, plain_least(jobs))
        self.assertEqual((type(told), type(told[0]), type(told[1])), (tuple, int, list))

    def test_no_jobs_and_one(self):
        self.assertEqual(least_takes([]), (0, []))
        self.assertEqual(least_takes(()), (0, []))
        for tool in (0, 1, 4, 77, 10 ** 12):
            self.assertEqual(least_takes([(tool, [])]), (1, [0]))

    def test_jobs_of_one_tool(self):
        self.assertEqual(least_takes([(3, [])] * 10), (1, list(range(10))))
        self.assertEqual(least_takes([(3, [1]), (3, [2]), (3, [])]), (1, [2, 1, 0]))
        self.assertEqual(least_takes([(3, [at + 1] if at < 9 else []) for at in range(10)]), (1, list(range(9, -1, -1))))

    def test_chains_by_turns(self):
        for many in range(1, 8):
            self.check(CHAIN[:many])
        self.assertEqual(least_takes(CHAIN), (10, list(range(10))))
        back = [(at % 2, [at + 1] if at < 9 else []) for at in range(10)]
        self.assertEqual(least_takes(back), (10, list(range(9, -1, -1))))

    def test_the_first_order_of_several(self):
        self.assertEqual(least_takes([(0, []), (1, []), (0, []), (1, [])]), (2, [0, 2, 1, 3]))
        self.assertEqual(least_takes([(0, [1]), (1, []), (0, [])]), (2, [1, 0, 2]))
        self.assertEqual(least_takes([(0, []), (1, []), (0, [1])]), (2, [1, 0, 2]))
        self.assertEqual(least_takes([(1, []), (0, []), (0, [3]), (1, [])]), (2, [0, 3, 1, 2]))
        self.assertEqual(least_takes([(0, []), (1, [0]), (0, []), (1, [])]), (2, [0, 2, 1, 3]))
        self.assertEqual(least_takes([(0, []), (1, [0]), (0, [1]), (1, [])]), (3, [0, 1, 3, 2]))

    def test_waiting_with_a_tool_may_be_less(self):
        self.check([(0, []), (1, []), (0, [1])])
        self.check([(0, []), (1, []), (2, [0]), (0, [1, 2]), (1, [2])])
        self.check([(5, []), (7, []), (5, [1]), (7, [0]), (9, [0, 1])])

    def test_ten_jobs(self):
        self.assertEqual(least_takes(UNLIKE), (10, list(range(10))))
        self.assertEqual(least_takes([(9 - at, []) for at in range(10)]), (10, list(range(10))))
        self.assertEqual(least_takes(LAYERS), (4, [0, 3, 2, 1, 4, 6, 8, 5, 7, 9]))
        self.assertEqual(least_takes([(at // 2, []) for at in range(10)]), (5, list(range(10))))
        self.assertEqual(least_takes([(at % 5, []) for at in range(10)]), (5, [0, 5, 1, 6, 2, 7, 3, 8, 4, 9]))

    def test_all_jobs_of_two_tools_up_to_three(self):
        needs = {1: [[]], 2: [[], [0], [1]], 3: [[], [0], [1], [2], [0, 1], [0, 2], [1, 2]]}
        for many in needs:
            for code in range((2 * len(needs[many])) ** many):
                jobs = []
                for at in range(many):
                    code, part = divmod(code, 2 * len(needs[many]))
                    jobs.append((part % 2, needs[many][part // 2]))
                if plain_least(jobs) is None:
                    self.assertRaises(Round, least_takes, jobs)
                    self.assertRaises(Round, bound_of, jobs)
                else:
                    self.check(jobs)

    def test_every_order_tried(self):
        source = random.Random(201)
        for many, times in ((4, 150), (5, 100), (6, 40), (7, 8)):
            for _ in range(times):
                tools = source.choice([[0, 1], [0, 1, 2], [4, 0, 9, 1], [123456789, 5, 6]])
                self.check(random_jobs(source, many, tools, source.choice([0, 0.1, 0.3, 0.6])))

    def test_ten_jobs_by_chance(self):
        source = random.Random(202)
        for _ in range(30):
            jobs = random_jobs(source, 10, [0, 1, 2, 7], source.choice([0, 0.1, 0.2, 0.5]))
            number, order = least_takes(jobs)
            self.assertTrue(is_order(jobs, order))
            self.assertEqual(takes_in(jobs, order), number)
            self.assertTrue(is_paper(jobs, number, bound_of(jobs)))

    def test_needs_told_twice(self):
        self.assertEqual(least_takes([(0, [1, 1]), (1, [])]), (2, [1, 0]))

    def test_rings(self):
        for jobs in RINGS:
            for handed in (jobs, as_lists(jobs), as_tuples(jobs)):
                ahead = repr(handed)
                for ask in (least_takes, bound_of):
                    with self.assertRaises(Round) as caught:
                        ask(handed)
                    self.assertIsInstance(caught.exception, MillError)
                self.assertEqual(repr(handed), ahead)

    def test_kinds_and_own_lists(self):
        source = random.Random(203)
        for _ in range(20):
            jobs = random_jobs(source, 6, [0, 1, 2], 0.3)
            wanted, paper = least_takes(jobs), bound_of(jobs)
            for handed in (as_lists(jobs), as_tuples(jobs), tuple(jobs)):
                ahead = copy.deepcopy(handed)
                told = least_takes(handed)
                self.assertEqual(told, wanted)
                told[1].clear()
                self.assertEqual(least_takes(handed), wanted)
                self.assertEqual(bound_of(handed), paper)
                self.assertEqual(handed, ahead)
            shuffled_needs = [(tool, shuffled(source, needs)) for tool, needs in jobs]
            self.assertEqual(least_takes(shuffled_needs), wanted)


class BoundOf(unittest.TestCase):
    def check(self, jobs):
        number, paper = least_takes(jobs)[0], bound_of(jobs)
        self.assertEqual(len(paper), max(number - 1, 0))
        self.assertTrue(is_paper(jobs, number, paper))
        self.assertIs(shows_bound(jobs, number, paper), True)
        self.assertEqual([type(paper)] + [type(level) for level in paper], [list] * (len(paper) + 1))
        self.assertTrue(all(type(some) is tuple for level in paper for some in level))
        lists = lists_in(paper)
        self.assertEqual(len({id(part) for part in lists}), len(lists))
        self.assertEqual(bound_of(jobs), paper)

    def test_none_and_one_take(self):
        for jobs in ([], (), [(4, [])], [(4, [1]), (4, [])], [(0, [])] * 10):
            told = bound_of(jobs)
            self.assertEqual(told, [])
            self.assertIs(type(told), list)
            self.assertIsNot(bound_of(jobs), told)

    def test_ten_jobs(self):
        for jobs in (UNLIKE, CHAIN, LAYERS, [(at % 5, []) for at in range(10)], [(at // 2, []) for at in range(10)]):
            self.check(jobs)

    def test_what_chance_brings(self):
        source = random.Random(204)
        for _ in range(150):
            self.check(random_jobs(source, source.randint(1, 7), [0, 1, 2, 30], source.choice([0, 0.2, 0.5])))

    def test_own_lists(self):
        told = bound_of(CHAIN)
        again = copy.deepcopy(told)
        told[0].append((1, 2))
        told.pop()
        self.assertEqual(bound_of(CHAIN), again)


if __name__ == "__main__":
    unittest.main()
