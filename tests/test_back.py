"""Promise 8: back."""

import unittest

from tests.calling import answer, ask, asked, back, begin, count, frames, load, look, run, step, text

EXAMPLE = "block 1 0 get 0 fn 1 num 5 1 call 1 ret block 1 0 get 0 get 1 mul ret"
SUM = ("block 1 0 true num 7 1 fn 1 num 0 1 get 0 fold 2 pair ret "
       "block 0 0 get 0 fn 2 ret block 1 0 get 0 bind get 0 get 1 add free 1 ret")
# A block that calls itself until a call is refused, with many steps and a list that grows at each.
GROWING = ("block 0 0 fn 1 nil call 0 ret block 0 1 get 1 bind " + "true get 2 cons free 1 bind " * 50
           + "get 0 get 2 call 0 ret")
REFUSED = (
    (1, "num 1 1 num 0 1 div"), (2, "num 2 1 root"), (3, "num 2 150 pow 2"),
    (4, "fn 1 nil call 1 ret block 0 1 get 0 get 1 call 0"), (5, "fn 1 nil call 161 ret block 0 0 true ret"),
    (6, "true true add"), (7, "true"),
)


def whole(*before, most=8):
    """Calls that tell all there is of a run, behind others."""
    return before + (count(), answer(), frames()) + tuple(look(frame) for frame in range(most))


class RefusalTest(unittest.TestCase):
    def test_no_run(self):
        for n in (-1, 0, 1, 10 ** 18):
            self.assertEqual(ask(back(n)), [[-3]])
            self.assertEqual(ask(load(1, EXAMPLE), back(n)), [[0], [-3]])

    def test_below_zero(self):
        self.assertEqual(asked(EXAMPLE, "1/2", back(-1), step(3), back(-1), back(-10 ** 18), count(), run(), back(-1)),
                         [[-1], [0, 3], [-1], [-1], [3, 1000], [1, 9], [-1]])

    def test_more_than_were_done(self):
        self.assertEqual(asked(EXAMPLE, "1/2", back(1), back(10 ** 18), step(3), back(4), count(), run(), back(10),
                               back(10 ** 18), count()),
                         [[-5], [-5], [0, 3], [-5], [3, 1000], [1, 9], [-5], [-5], [9, 999]])

    def test_steps_that_were_taken_back_count_no_longer(self):
        self.assertEqual(asked(EXAMPLE, "1/2", run(), back(5), back(5), back(4), back(1)),
                         [[1, 9], [4], [-5], [0], [-5]])

    def test_a_refusal_leaves_the_run(self):
        before = asked(EXAMPLE, "1/2", *whole(step(6), back(0)))
        self.assertEqual(asked(EXAMPLE, "1/2", *whole(step(6), back(-1)))[2:], before[2:])
        self.assertEqual(asked(EXAMPLE, "1/2", *whole(step(6), back(7)))[2:], before[2:])
        ended = asked(EXAMPLE, "1/2", *whole(run(), back(10)))
        self.assertEqual(ended[:5], [[1, 9], [-5], [9, 999], [0] + list(b"5/2"), [0]])


class BackTest(unittest.TestCase):
    def each_way(self, code, inputs, budget=1000):
        """Going back from the end, and by single steps, leads to what stepping forth leads to."""
        (outcome, *steps), = asked(code, inputs, run(), budget=budget)
        done = steps[0]
        rows = [asked(code, inputs, *whole(step(at)), budget=budget)[1:] for at in range(done + 1)]
        for at in range(done + 1):
            away = asked(code, inputs, *whole(run(), back(done - at)), budget=budget)
            self.assertEqual(away[:2], [[outcome, *steps], [at]], code)
            self.assertEqual(away[2:], rows[at], (code, at))
            again = asked(code, inputs, *whole(run(), back(done - at), run()), budget=budget)
            self.assertEqual(again[2:], [[outcome, *steps]] + rows[done], (code, at))
        for at in range(1, done + 1):
            forth = asked(code, inputs, *whole(step(at), back(1), step(1)), budget=budget)
            self.assertEqual(forth[1], [at - 1])
            self.assertEqual(forth[3:], rows[at])

    def test_ended(self):
        self.each_way(EXAMPLE, "1/2")
        self.each_way("block 0 0 true ret", "")
        self.each_way(SUM, "[1, 1/2, -3]")
        self.each_way(SUM, "[]")

    def test_many_steps(self):
        self.each_way(SUM, "[" + ", ".join([str(number) for number in range(12)]) + "]")

    def test_refused(self):
        for number, words in REFUSED:
            code = "block 0 0 " + words
            self.assertEqual(asked(code, "", run(), budget=20)[0][0::2], [2, number])
            self.each_way(code, "", 20)

    def test_refused_in_a_fold_frame(self):
        for budget in (0, 1, 3, 6):
            self.each_way(SUM, "[1, 2, true]", budget)
        self.each_way(SUM.replace("fold 2", "fold 161"), "[1, 2]")

    def test_ended_and_refused_are_taken_back(self):
        self.assertEqual(asked(EXAMPLE, "1/2", run(), back(1), answer(), step(0), step(1), answer()),
                         [[1, 9], [8], [-9], [0, 0], [1, 1], [0] + list(b"5/2")])
        self.assertEqual(asked("block 0 0 true root", "", run(), back(1), step(0), frames(), step(1), back(2), run()),
                         [[2, 2, 6], [1], [0, 0], [1, 0, 0, 1, 1, 0, 0], [2, 1, 6], [0], [2, 2, 6]])

    def test_none(self):
        self.assertEqual(asked(EXAMPLE, "1/2", back(0), step(5), back(0), run(), back(0), step(1), answer()),
                         [[0], [0, 5], [5], [1, 9], [9], [1, 0], [0] + list(b"5/2")])
        self.assertEqual(asked("block 0 0 true root", "", run(), back(0), step(1)), [[2, 2, 6], [2], [2, 0, 6]])

    def test_all(self):
        beginning = asked(EXAMPLE, "1/2", *whole())
        self.assertEqual(asked(EXAMPLE, "1/2", *whole(run(), back(9)))[2:], beginning)
        self.assertEqual(beginning[:4], [[0, 1000], [-9], [1, 0, 0, 0, 0, 1, 0], [0] + list(b"|1/2")])

    def test_calls_left(self):
        self.assertEqual(asked(EXAMPLE, "1/2", step(4), count(), back(1), count(), step(1), count(), back(0), count(),
                               budget=3),
                         [[0, 4], [4, 2], [3], [3, 3], [0, 1], [4, 2], [4], [4, 2]])

    def test_back_behind_a_back(self):
        self.assertEqual(asked(EXAMPLE, "1/2", run(), back(2), back(3), back(0), count(), step(1), back(2), back(3),
                               run(), back(9), run(), answer()),
                         [[1, 9], [7], [4], [4], [4, 999], [0, 1], [3], [0], [1, 9], [0], [1, 9],
                          [0] + list(b"5/2")])

    def test_a_new_run_has_nothing_to_go_back_to(self):
        answers = ask(load(1, EXAMPLE), begin(3, "1/2"), run(), begin(3, "7"), back(1), back(0), step(2), back(1), run(),
                      answer())
        self.assertEqual(answers[3:], [[0], [-5], [0], [0, 2], [1], [1, 9], [0] + list(b"35")])


class LongTest(unittest.TestCase):
    STEPS = 3 + 1000 * (2 + 250 + 3)

    def test_far_back(self):
        told = (count(), frames(), look(0), look(2))
        calls = [run()]
        wanted = [[2, self.STEPS, 4]]
        done = self.STEPS
        for at in (100000, 65536, 65535, 4096, 1000, 256, 255, 129, 128, 127, 65, 64, 63, 2, 1, 0):
            calls += [back(done - at), *told]
            wanted += [[at]] + asked(GROWING, "", step(at), *told)[1:]
            done = at
        self.assertEqual(asked(GROWING, "", *calls), wanted)

    def test_many_times(self):
        calls = [back(5100)] * 50
        rows = asked(GROWING, "", run(), *calls, count(), run())
        self.assertEqual(rows[1:51], [[self.STEPS - 5100 * time] for time in range(1, 51)])
        self.assertEqual(rows[51:], [[3, 999], [2, self.STEPS, 4]])

    def test_back_and_forth(self):
        calls = [call for time in range(30) for call in (back(200 + time), step(150))]
        rows = asked(GROWING, "", step(3000), *calls, frames(), look(3))
        done = 3000 - sum([50 + time for time in range(30)])
        self.assertEqual(rows[-2:], asked(GROWING, "", step(done), frames(), look(3))[1:])
        self.assertEqual(rows[2:-2:2], [[0, 150]] * 30)

    def test_further_forth_each_time(self):
        calls = [call for time in range(20) for call in (step(300), back(170))]
        for n in (0, 1, 63, 64, 65, 100, 128, 500, 1000, 2000, 2770):
            rows = asked(GROWING, "", *calls, step(170), back(n), frames(), look(3))
            self.assertEqual(rows[-2:], asked(GROWING, "", step(20 * 130 + 170 - n), frames(), look(3))[1:], n)

    def test_what_is_looked_at(self):
        rows = asked(GROWING, "", step(70), look(1), back(60), look(1), step(60), look(1))
        self.assertEqual(text(rows[3]), "|fn, [], [true]")
        self.assertEqual(rows[1], rows[5])


if __name__ == "__main__":
    unittest.main()
