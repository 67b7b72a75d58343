"""Promise 7: run."""

import unittest

from tests.calling import ask, asked, begin, count, load, run, step

EXAMPLE = "block 1 0 get 0 fn 1 num 5 1 call 1 ret block 1 0 get 0 get 1 mul ret"
# For each refusal a code that is refused so at its last word, and after how many steps.
REFUSED = (
    (1, "num 1 1 num 0 1 div", 3),
    (2, "num 2 1 root", 2),
    (3, "num 2 150 pow 2", 2),
    (4, "fn 1 nil call 0 ret block 0 1 get 0 get 1 call 0", 3003),
    (5, "fn 1 nil call 161 ret block 0 0 true ret", 3),
    (6, "true true add", 3),
    (7, "true", 2),
)


class RunTest(unittest.TestCase):
    def test_no_run(self):
        self.assertEqual(ask(run()), [[-3]])
        self.assertEqual(ask(load(1, EXAMPLE), run()), [[0], [-3]])
        self.assertEqual(ask(load(1, EXAMPLE), begin(3, "true, 1"), run()), [[0], [-8], [-3]])

    def test_ends(self):
        self.assertEqual(asked(EXAMPLE, "1/2", run(), budget=3, checked=1), [[1, 9]])
        self.assertEqual(asked("block 0 0 true ret", "", run(), budget=0), [[1, 2]])

    def test_refused(self):
        for number, words, steps in REFUSED:
            self.assertEqual(asked("block 0 0 " + words, "", run()), [[2, steps, number]], words)
        self.assertEqual(asked("block 0 0", "", run()), [[2, 1, 7]])

    def test_a_fold_frame_is_refused(self):
        code = "block 1 0 fn 1 nil get 0 fold {0} ret block 0 0 true ret"
        self.assertEqual(asked(code.format(161), "[1]", run()), [[2, 5, 5]])
        self.assertEqual(asked(code.format(160), "[1]", run(), budget=0), [[2, 5, 4]])
        self.assertEqual(asked(code.format(160), "[1]", run(), budget=1), [[2, 8, 6]])

    def test_all_steps_since_begin_are_told(self):
        for steps in range(10):
            goes_on = [0, steps] if steps < 9 else [1, 9]
            self.assertEqual(asked(EXAMPLE, "1/2", step(steps), run()), [goes_on, [1, 9]])
        self.assertEqual(asked("block 0 0 true root", "", step(1), run()), [[0, 1], [2, 2, 6]])

    def test_again(self):
        self.assertEqual(asked(EXAMPLE, "1/2", run(), run(), step(1), run()), [[1, 9], [1, 9], [1, 0], [1, 9]])
        for number, words, steps in REFUSED:
            told = [2, steps, number]
            answers = asked("block 0 0 " + words, "", run(), run(), step(5), run())
            self.assertEqual(answers, [told, told, [2, 0, number], told])

    def test_a_new_run(self):
        answers = ask(load(0, EXAMPLE), begin(3, "1/2"), run(), begin(0, "1"), run(), begin(1, "1"), count(), run())
        self.assertEqual(answers[2:], [[1, 9], [0], [2, 4, 4], [0], [0, 1], [1, 9]])

    def test_long_runs(self):
        code = "block 0 0 fn 1 nil call 0 ret block 0 1 " + "skip 0 " * 297 + "get 0 get 1 call 0"
        self.assertEqual(asked(code, "", run(), count(), run()), [[2, 300003, 4], [300003, 0], [2, 300003, 4]])

    def test_a_long_run_that_gets_too_heavy(self):
        code = ("block 0 0 fn 1 num 999 1 call 0 ret block 0 1 get 1 num 0 1 same unless 2 nil ret "
                + "true bind free 1 " * 90 + "get 0 get 1 num 1 1 sub call 0 ret")
        self.assertEqual(asked(code, "", run(), checked=1), [[2, 3 + 199 * 279 + 278, 3]])

    def test_a_long_run_that_ends(self):
        code = ("block 1 0 fn 1 get 0 get 0 fold 0 ret block 0 0 get 0 fn 2 ret block 1 0 "
                + "nil bind free 1 " * 95 + "nil ret")
        inputs = "[" + ",".join(["1"] * 500) + "]"
        steps = 6 + 500 * (2 + 3 + 287)
        self.assertEqual(asked(code, inputs, run(), count(), run()), [[1, steps], [steps, 0], [1, steps]])
        self.assertEqual(asked(code, inputs, run(), budget=999), [[2, steps - 2 - 287, 4]])


if __name__ == "__main__":
    unittest.main()
