"""Promise 12: count."""

import unittest

from tests.calling import ask, asked, back, begin, count, load, run, step

EXAMPLE = "block 1 0 get 0 fn 1 num 5 1 call 1 ret block 1 0 get 0 get 1 mul ret"
FOLD = "block 1 0 true fn 1 nil get 0 fold 2 pair ret block 0 0 get 0 fn 2 ret block 1 0 get 1 get 0 cons ret"


class CountTest(unittest.TestCase):
    def test_no_run(self):
        self.assertEqual(ask(count()), [[-3]])
        self.assertEqual(ask(load(1, EXAMPLE), count()), [[0], [-3]])
        self.assertEqual(ask(load(1, EXAMPLE), begin(3, "1"), run(), load(0, EXAMPLE), count())[3:], [[0], [-3]])

    def test_example(self):
        self.assertEqual(asked(EXAMPLE, "1/2", run(), count(), budget=3, checked=1), [[1, 9], [9, 2]])

    def test_after_begin(self):
        for budget in (0, 1, 999, 1000):
            self.assertEqual(asked(EXAMPLE, "1/2", count(), budget=budget), [[0, budget]])

    def test_steps(self):
        calls = [call for at in range(9) for call in (step(1), count())]
        self.assertEqual(asked(EXAMPLE, "1/2", *calls, budget=3)[1::2],
                         [[1, 3], [2, 3], [3, 3], [4, 2], [5, 2], [6, 2], [7, 2], [8, 2], [9, 2]])
        self.assertEqual(asked(EXAMPLE, "1/2", step(0), count(), step(100000), count(), step(1), count())[1::2],
                         [[0, 1000], [9, 999], [9, 999]])

    def test_folds(self):
        calls = [call for at in range(15) for call in (step(1), count())]
        self.assertEqual([left for done, left in asked(FOLD, "[7, 8]", *calls, budget=5)[1::2]],
                         [5, 5, 5, 5, 5, 4, 4, 4, 4, 3, 3, 3, 3, 3, 2])

    def test_refused(self):
        self.assertEqual(asked("block 0 0 true root", "", run(), count(), step(3), count(), back(1), count(), budget=7),
                         [[2, 2, 6], [2, 7], [2, 0, 6], [2, 7], [1], [1, 7]])
        self.assertEqual(asked("block 0 0 fn 1 nil call 161 block 0 0", "", run(), count(), budget=7)[1], [3, 7])
        self.assertEqual(asked("block 0 0 fn 1 nil call 160 block 0 0", "", run(), count(), budget=0), [[2, 3, 4], [3, 0]])
        self.assertEqual(asked("block 0 0 fn 1 nil call 160 block 0 0", "", run(), count(), budget=1), [[2, 4, 7], [4, 0]])
        self.assertEqual(asked(FOLD, "[7, 8]", run(), count(), budget=0), [[2, 6, 4], [6, 0]])

    def test_back(self):
        self.assertEqual(asked(EXAMPLE, "1/2", run(), back(5), count(), back(1), count(), back(3), count(), run(), count(),
                               budget=3),
                         [[1, 9], [4], [4, 2], [3], [3, 3], [0], [0, 3], [1, 9], [9, 2]])

    def test_a_new_run(self):
        answers = ask(load(1, EXAMPLE), begin(3, "1/2"), run(), begin(8, "1"), count(), begin(9, ""), count(),
                      begin(1001, "1"), count(), begin(9, "x"), count(), load(1, "block 0 0"), count(), load(2, EXAMPLE),
                      count(), load(0, "block"), count(), step(4), count())
        self.assertEqual(answers[3:], [[0], [0, 8], [-8], [0, 8], [-1], [0, 8], [-7], [0, 8], [2, 0, 0, 9], [0, 8], [-1],
                                       [0, 8], [1, 5], [0, 8], [0, 4], [4, 7]])


if __name__ == "__main__":
    unittest.main()
