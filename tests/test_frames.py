"""Promise 10: frames."""

import unittest

from tests.calling import ask, asked, back, begin, frames, load, run, step

EXAMPLE = "block 1 0 get 0 fn 1 num 5 1 call 1 ret block 1 0 get 0 get 1 mul ret"
FOLD = "block 1 0 true fn 1 nil get 0 fold 2 pair ret block 0 0 get 0 fn 2 ret block 1 0 get 1 get 0 cons ret"


def told(answered):
    """The frames of an answer, six numbers each."""
    rows = [tuple(answered[at:at + 6]) for at in range(1, len(answered), 6)]
    assert len(answered) == 1 + 6 * len(rows) and answered[0] == len(rows), answered
    return rows


class FramesTest(unittest.TestCase):
    def each(self, code, inputs, budget=1000):
        """The frames after each step of a run."""
        (outcome, steps, *refusal), = asked(code, inputs, run(), budget=budget)
        calls = [call for at in range(steps) for call in (step(1), frames())]
        return [told(row) for row in asked(code, inputs, frames(), *calls, budget=budget)[0::2]]

    def test_no_run(self):
        self.assertEqual(ask(frames()), [[-3]])
        self.assertEqual(ask(load(1, EXAMPLE), frames()), [[0], [-3]])
        self.assertEqual(ask(load(1, EXAMPLE), begin(3, "1"), load(1, EXAMPLE), frames())[2:], [[0], [-3]])

    def test_after_begin(self):
        self.assertEqual(asked(EXAMPLE, "1/2", frames()), [[1, 0, 0, 0, 0, 1, 0]])
        self.assertEqual(asked("block 0 0", "", frames()), [[1, 0, 0, 0, 0, 0, 0]])
        self.assertEqual(asked("block 3 0", "1, 2, 3", frames()), [[1, 0, 0, 0, 0, 3, 0]])

    def test_example(self):
        waiting = (0, 0, 4, 0, 1, 0)
        self.assertEqual(self.each(EXAMPLE, "1/2"), [
            [(0, 0, 0, 0, 1, 0)], [(0, 0, 1, 1, 1, 0)], [(0, 0, 2, 1, 1, 0)], [(0, 0, 3, 2, 1, 0)],
            [waiting, (0, 1, 0, 0, 2, 1)], [waiting, (0, 1, 1, 1, 2, 1)], [waiting, (0, 1, 2, 2, 2, 1)],
            [waiting, (0, 1, 3, 1, 2, 1)], [(0, 0, 4, 1, 1, 0)], []])

    def test_fold(self):
        waiting = (0, 0, 5, 1, 1, 0)
        alone = (1, 1, 1, 2, 0, 0)
        nothing = (1, 1, 3, 2, 0, 0)
        self.assertEqual(self.each(FOLD, "[7, 8]")[5:16], [
            [waiting, (1, 2, 0, 2, 0, 0)],
            [waiting, alone, (0, 1, 0, 0, 1, 2)], [waiting, alone, (0, 1, 1, 1, 1, 2)],
            [waiting, alone, (0, 1, 2, 1, 1, 2)], [waiting, (1, 1, 2, 2, 0, 0)],
            [waiting, nothing, (0, 2, 0, 0, 2, 2)], [waiting, nothing, (0, 2, 1, 1, 2, 2)],
            [waiting, nothing, (0, 2, 2, 2, 2, 2)], [waiting, nothing, (0, 2, 3, 1, 2, 2)],
            [waiting, (1, 1, 0, 2, 0, 0)], [waiting, (1, 0, 1, 2, 0, 0), (0, 1, 0, 0, 1, 2)]])
        self.assertEqual(self.each(FOLD, "[7, 8]")[23:], [
            [waiting, (1, 0, 0, 2, 0, 0)], [(0, 0, 5, 2, 1, 0)], [(0, 0, 6, 1, 1, 0)], []])

    def test_fold_of_the_empty_list(self):
        self.assertEqual(self.each("block 0 0 nil true nil fold 999 ret", "")[4:], [
            [(0, 0, 4, 0, 0, 0), (1, 0, 0, 999, 0, 0)], [(0, 0, 4, 1, 0, 0)], []])

    def test_depth_of_a_fold_frame(self):
        code = ("block 1 0 fn 1 get 0 call 30 ret block 0 0 fn 2 nil get 0 fold 20 ret "
                "block 0 0 nil nil nil fold 5 fn 3 ret block 0 0 true ret")
        rows = self.each(code, "[1]")
        self.assertIn([(0, 0, 3, 0, 1, 0), (0, 1, 4, 0, 1, 30), (1, 0, 1, 20, 30, 0), (0, 2, 4, 0, 1, 50),
                       (1, 0, 0, 5, 50, 0)], rows)
        self.assertIn([(0, 0, 3, 0, 1, 0), (0, 1, 4, 0, 1, 30), (1, 0, 3, 20, 30, 0), (0, 3, 1, 1, 1, 50)], rows)

    def test_locals(self):
        code = "block 2 0 get 0 bind free 1 get 0 get 1 fn 1 nil call 7 ret block 2 1 nil nil cons part 0 get 5 ret"
        waiting = (0, 0, 8, 0, 2, 0)
        self.assertEqual(self.each(code, "1, 2")[1:], [
            [(0, 0, 1, 1, 2, 0)], [(0, 0, 2, 0, 3, 0)], [(0, 0, 3, 0, 2, 0)], [(0, 0, 4, 1, 2, 0)], [(0, 0, 5, 2, 2, 0)],
            [(0, 0, 6, 1, 2, 0)], [(0, 0, 7, 2, 2, 0)], [waiting, (0, 1, 0, 0, 4, 7)], [waiting, (0, 1, 1, 1, 4, 7)],
            [waiting, (0, 1, 2, 2, 4, 7)], [waiting, (0, 1, 3, 1, 4, 7)], [waiting, (0, 1, 4, 0, 6, 7)],
            [waiting, (0, 1, 5, 1, 6, 7)], [(0, 0, 8, 1, 2, 0)], []])

    def test_skips(self):
        self.assertEqual(self.each("block 0 0 skip 1 nil true unless 1 skip 999 nil", ""), [
            [(0, 0, 0, 0, 0, 0)], [(0, 0, 2, 0, 0, 0)], [(0, 0, 3, 1, 0, 0)], [(0, 0, 4, 0, 0, 0)],
            [(0, 0, 1004, 0, 0, 0)], [(0, 0, 1004, 0, 0, 0)]])

    def test_a_function_of_block_0(self):
        self.assertEqual(self.each("block 1 0 get 0 fn 0 nil call 3", "1", 1)[4:6], [
            [(0, 0, 4, 0, 1, 0), (0, 0, 0, 0, 2, 3)], [(0, 0, 4, 0, 1, 0), (0, 0, 1, 1, 2, 3)]])

    def test_ended(self):
        self.assertEqual(asked(EXAMPLE, "1/2", run(), frames(), step(1), frames(), back(1), frames())[1::2],
                         [[0], [0], [1, 0, 0, 4, 1, 1, 0]])

    def test_refused(self):
        for words in ("num 1 1 num 0 1 div", "num 5 1 num 2 1 root", "num 5 1 num 2 150 pow 2", "fn 1 nil call 1",
                      "fn 1 nil call 161", "true true add", "true true get 0", "true true fold 0", "true true free 1",
                      "true true fn 9", "true fn 1 fst"):
            rows = self.each("block 0 0 " + words + " ret block 0 0 true ret", "", 0)
            self.assertEqual(rows[-2:], [[(0, 0, len(rows) - 2, len(rows) - 2, 0, 0)]] * 2, words)

    def test_refused_fold_frames(self):
        waiting = (0, 0, 5, 1, 1, 0)
        self.assertEqual(self.each(FOLD, "[7, 8]", 0)[-1], [waiting, (1, 2, 0, 2, 0, 0)])
        self.assertEqual(self.each(FOLD, "[7, 8]", 1)[-1], [waiting, (1, 1, 2, 2, 0, 0)])
        self.assertEqual(self.each(FOLD, "[7, 8]", 2)[-1], [waiting, (1, 1, 0, 2, 0, 0)])
        self.assertEqual(self.each(FOLD.replace("fold 2", "fold 161"), "[7, 8]")[-1], [waiting, (1, 2, 0, 161, 0, 0)])
        self.assertEqual(self.each("block 1 0 nil nil get 0 fold 0", "[7]")[-1], [(0, 0, 4, 0, 1, 0), (1, 1, 0, 0, 0, 0)])
        broken = FOLD.replace("block 0 0 get 0 fn 2 ret", "block 0 0 get 1 fn 2 ret")
        self.assertEqual(self.each(broken, "[7, 8]")[-1], [waiting, (1, 1, 1, 2, 0, 0), (0, 1, 0, 0, 1, 2)])

    def test_most_frames(self):
        code = "block 0 0 fn 1 nil nil nil cons fold 0 ret block 0 1 get 0 nil true nil cons fold 0 ret"
        rows = told(asked(code, "", run(), frames())[1])
        pair = [(0, 1, 6, 0, 2, 0), (1, 0, 1, 0, 0, 0)]
        # No assertEqual: it would take very long to tell how so long lists differ.
        self.assertTrue(rows == [(0, 0, 6, 0, 0, 0), (1, 0, 1, 0, 0, 0)] + pair * 999 + [pair[0], (1, 1, 0, 0, 0, 0)])

    def test_long_lists_still_to_come(self):
        inputs = "[" + ",".join(["1"] * 1999) + "]"
        self.assertEqual(asked(FOLD, inputs, step(5), frames(), step(1), frames())[1::2],
                         [[2, 0, 0, 5, 1, 1, 0, 1, 1999, 0, 2, 0, 0],
                          [3, 0, 0, 5, 1, 1, 0, 1, 1998, 1, 2, 0, 0, 0, 1, 0, 0, 1, 2]])

    def test_a_new_run(self):
        answers = ask(load(0, EXAMPLE), begin(3, "1/2"), step(5), begin(3, "2"), frames(), load(0, "what"), frames(),
                      step(3), begin(3, "what"), frames())
        self.assertEqual(answers[3:], [[0], [1, 0, 0, 0, 0, 1, 0], [1, 0], [1, 0, 0, 0, 0, 1, 0], [0, 3], [-7],
                                       [1, 0, 0, 3, 2, 1, 0]])


if __name__ == "__main__":
    unittest.main()
