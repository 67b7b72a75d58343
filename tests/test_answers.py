"""The interface: what is handed in, what is given back, and that nothing is kept."""

import unittest

from fractioncode.machine import answers
from tests.calling import (answer, apart, ask, back, begin, check, count, frames, heights, load, look, run, show, step,
                           text)

CODE = "block 1 0 get 0 fn 1 num 5 1 call 1 ret block 1 0 get 0 get 1 mul ret"
FOLD = "block 1 0 true fn 1 nil get 0 fold 2 pair ret block 0 0 get 0 fn 2 ret block 1 0 get 1 get 0 cons ret"


def all_calls():
    about_run = [count(), frames(), look(0), look(1), look(2), answer()]
    calls = [step(0), run(), back(0)] + about_run
    calls += [load(1, CODE), check("block 0 0 ret"), show(), heights(1), begin(3, "1/2"), step(4)] + about_run
    calls += [step(100)] + about_run + [back(3)] + about_run + [back(7), back(-1), run()] + about_run
    calls += [load(0, "what"), begin(3, "[1, (true, 2/4)]"), step(5), back(1)] + about_run + [run()] + about_run
    calls += [load(0, FOLD), begin(2, "[1, (true, 2/4)]"), run()] + about_run + [back(2)] + about_run
    return [number for call in calls for number in call]


class AnswersTest(unittest.TestCase):
    def test_counts_stand_before_the_answers(self):
        handed = load(1, "block 0 0 true ret") + show() + begin(0, "") + step(9) + heights(7)
        shown = list(b"block 0 0 true ret")
        self.assertEqual(answers(handed), [1, 0, 1 + len(shown), 0] + shown + [1, 0, 2, 1, 2, 1, -2])

    def test_example(self):
        handed = load(1, CODE) + begin(3, "1/2") + run() + answer() + count()
        self.assertEqual(answers(handed), [1, 0, 1, 0, 2, 1, 9, 4, 0, 53, 47, 50, 2, 9, 2])

    def test_counts_of_the_calls_on_a_run(self):
        handed = load(1, CODE) + begin(3, "1/2") + frames() + look(0) + back(0) + back(1) + look(1) + answer() + run()
        self.assertEqual(answers(handed), [1, 0, 1, 0, 7, 1, 0, 0, 0, 0, 1, 0, 5, 0, 124, 49, 47, 50, 1, 0, 1, -5, 1, -2,
                                           1, -9, 2, 1, 9])

    def test_no_run_for_any_call_once_code_is_loaded(self):
        about_run = [step(1), run(), back(0), answer(), frames(), look(0), count()]
        for before in ([], [step(3)], [run()], [run(), back(2)]):
            rows = ask(load(1, CODE), begin(3, "1/2"), *before, load(0, CODE), *about_run)
            self.assertEqual(rows[-7:], [[-3]] * 7)
            rows = ask(load(1, CODE), begin(3, "1/2"), *before, load(1, "block 0 0"), load(0, "x"), load(2, CODE), count())
            self.assertNotEqual(rows[-1], [-3])

    def test_a_check_leaves_the_run(self):
        rows = ask(load(1, CODE), begin(3, "1/2"), step(6), check(CODE), check("block 0 0"), check("x"), count(), look(1),
                   run(), answer())
        self.assertEqual(rows[3:7] + rows[8:9], [[0], [2, 0, 0, 9], [1, 0], [6, 2], [1, 9]])
        self.assertEqual((text(rows[7]), text(rows[9])), ("1/2, 5|1/2, 5", "5/2"))

    def test_kinds(self):
        given = answers(all_calls())
        self.assertIs(type(given), list)
        for number in given:
            self.assertIs(type(number), int)

    def test_what_is_handed_in_stays_the_same(self):
        handed = all_calls()
        before = list(handed)
        answers(handed)
        self.assertEqual(handed, before)

    def test_a_second_time_gives_the_same(self):
        handed = all_calls()
        first = answers(handed)
        self.assertEqual(answers(handed), first)
        self.assertEqual(first, answers(all_calls()))

    def test_nothing_is_kept(self):
        answers(load(1, CODE) + begin(3, "1"))
        self.assertEqual(answers(show() + step(1) + begin(0, "") + heights(0)), [1, -4, 1, -3, 1, -4, 1, -4])
        self.assertEqual(answers(run() + back(0) + answer() + frames() + look(0) + count()), [1, -3] * 6)

    def test_what_is_given_back_is_new(self):
        given = answers(load(1, CODE) + show())
        wanted = list(given)
        given.clear()
        self.assertEqual(answers(load(1, CODE) + show()), wanted)

    def test_all_calls_of_a_line(self):
        rows = ask(*[show() for call in range(120)])
        self.assertEqual(rows, [[-4]] * 120)

    def test_empty_texts(self):
        self.assertEqual(answers([0, 0, 0, 1, 0, 4, 5, 0]), [2, 1, 0, 2, 1, 0, 1, -4])

    def test_longest_texts(self):
        self.assertEqual(apart(answers(load(0, "block 0 0") + begin(0, [255] * 10000))), [[0], [-7]])
        self.assertEqual(apart(answers(check([0] * 10000))), [[1, 10000]])


if __name__ == "__main__":
    unittest.main()
