"""The interface: what is handed in, what is given back, and that nothing is kept."""

import unittest

from fractioncode.machine import answers
from tests.calling import apart, ask, begin, check, heights, load, show, step

CODE = "block 1 0 get 0 fn 1 num 5 1 call 1 ret block 1 0 get 0 get 1 mul ret"


def all_calls():
    calls = [step(0), load(1, CODE), check("block 0 0 ret"), show(), heights(1), begin(3, "1/2"), step(4), step(100),
             load(0, "what"), begin(3, "[1, (true, 2/4)]"), step(100)]
    return [number for call in calls for number in call]


class AnswersTest(unittest.TestCase):
    def test_counts_stand_before_the_answers(self):
        handed = load(1, "block 0 0 true ret") + show() + begin(0, "") + step(9) + heights(7)
        shown = list(b"block 0 0 true ret")
        self.assertEqual(answers(handed), [1, 0, 1 + len(shown), 0] + shown + [1, 0, 2, 1, 2, 1, -2])

    def test_kinds(self):
        given = answers(all_calls())
        self.assertIs(type(given), list)
        for number in given:
            self.assertIs(type(number), int)

    def test_what_is_handed_in_stays_the_same(self):
        handed = all_calls()
        before = list(handed)
        answers(handed)
        self.assertEqual(handed, before)

    def test_a_second_time_gives_the_same(self):
        handed = all_calls()
        first = answers(handed)
        self.assertEqual(answers(handed), first)
        self.assertEqual(first, answers(all_calls()))

    def test_nothing_is_kept(self):
        answers(load(1, CODE) + begin(3, "1"))
        self.assertEqual(answers(show() + step(1) + begin(0, "") + heights(0)), [1, -4, 1, -3, 1, -4, 1, -4])

    def test_what_is_given_back_is_new(self):
        given = answers(load(1, CODE) + show())
        wanted = list(given)
        given.clear()
        self.assertEqual(answers(load(1, CODE) + show()), wanted)

    def test_all_calls_of_a_line(self):
        rows = ask(*[show() for call in range(120)])
        self.assertEqual(rows, [[-4]] * 120)

    def test_empty_texts(self):
        self.assertEqual(answers([0, 0, 0, 1, 0, 4, 5, 0]), [2, 1, 0, 2, 1, 0, 1, -4])

    def test_longest_texts(self):
        self.assertEqual(apart(answers(load(0, "block 0 0") + begin(0, [255] * 10000))), [[0], [-7]])
        self.assertEqual(apart(answers(check([0] * 10000))), [[1, 10000]])


if __name__ == "__main__":
    unittest.main()
