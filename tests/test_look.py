"""Promise 11: look."""

import unittest

from tests.calling import ask, asked, back, begin, list_text, load, look, row, run, step, text_or_refusal

EXAMPLE = "block 1 0 get 0 fn 1 num 5 1 call 1 ret block 1 0 get 0 get 1 mul ret"
FOLD = "block 1 0 true fn 1 nil get 0 fold 2 pair ret block 0 0 get 0 fn 2 ret block 1 0 get 1 get 0 cons ret"
# 10^1000, with a weight of 11, after 6 steps.
LONG = "num 1" + "0" * 99 + " 1 pow 9 num 1" + "0" * 99 + " 1 mul num 1" + "0" * 10 + " 1 mul"
NINES = "9" * 1000


def seen(code, inputs, steps, frame=0):
    """What look tells of a frame, as a text or a refusal, after so many steps."""
    return text_or_refusal(asked(code, inputs, step(steps), look(frame))[1])


class RefusalTest(unittest.TestCase):
    def test_no_run(self):
        for frame in (-1, 0, 10 ** 18):
            self.assertEqual(ask(look(frame)), [[-3]])
            self.assertEqual(ask(load(1, EXAMPLE), look(frame)), [[0], [-3]])
        self.assertEqual(ask(load(1, EXAMPLE), begin(3, "1"), load(1, EXAMPLE), look(0))[2:], [[0], [-3]])

    def test_no_such_frame(self):
        for frame in (-10 ** 18, -2, -1, 1, 2, 10 ** 18):
            self.assertEqual(seen(EXAMPLE, "1/2", 0, frame), [-2])
        for frame in (-3, -2, -1, 2, 3):
            self.assertEqual(seen(EXAMPLE, "1/2", 5, frame), [-2])

    def test_ended(self):
        for frame in (-1, 0, 1):
            self.assertEqual(seen(EXAMPLE, "1/2", 9, frame), [-2])

    def test_fold_frames(self):
        for steps in range(5, 14):
            self.assertEqual(seen(FOLD, "[7, 8]", steps, 1), [-2])
        self.assertEqual(seen(FOLD, "[7, 8]", 6, 2), "|[]")
        self.assertEqual(seen(FOLD, "[7, 8]", 5, 2), [-2])

    def test_a_refusal_leaves_the_run(self):
        self.assertEqual(asked(EXAMPLE, "1/2", step(5), look(-1), look(2), look(1), run()),
                         [[0, 5], [-2], [-2], [0] + row("1/2|1/2, 5"), [1, 9]])
        self.assertEqual(asked("block 0 0 " + LONG, "", step(6), look(0), look(0), run()),
                         [[0, 6], [-6], [-6], [2, 7, 7]])


class ShownTest(unittest.TestCase):
    def test_example(self):
        wanted = [("|1/2",), ("1/2|1/2",), ("fn|1/2",), ("fn, 5|1/2",), ("|1/2", "|1/2, 5"), ("|1/2", "1/2|1/2, 5"),
                  ("|1/2", "1/2, 5|1/2, 5"), ("|1/2", "5/2|1/2, 5"), ("5/2|1/2",), ()]
        for steps, texts in enumerate(wanted):
            for frame in range(3):
                shown = texts[frame] if frame < len(texts) else [-2]
                self.assertEqual(seen(EXAMPLE, "1/2", steps, frame), shown, (steps, frame))

    def test_both_empty(self):
        self.assertEqual(asked("block 0 0 true ret", "", look(0)), [[0, 124]])
        self.assertEqual(seen("block 0 0 true bind", "", 1), "true|")
        self.assertEqual(seen("block 0 0 true bind", "", 2), "|true")

    def test_each_sort(self):
        code = ("block 2 0 num -6/4 3 false nil nil cons fn 1 nil cons num 1 1 num 2 1 pair fn 1 block 0 0 true ret")
        shown = "-3/2, false, [[]], [fn], (1, 2), fn|(true, [1, -1/2]), []"
        self.assertEqual(seen(code, "(true, [1, -2/4]), []", 12), shown)

    def test_what_a_function_was_made_with_is_not_shown(self):
        self.assertEqual(seen("block 0 0 true nil fn 1 bind get 0 block 2 1 true ret", "", 5), "fn|fn")
        self.assertEqual(seen("block 0 0 " + LONG + " fn 1 block 1 0 true ret", "", 7), "fn|")

    def test_itself_is_a_local(self):
        self.assertEqual(seen("block 0 0 true fn 1 num 3 1 call 0 block 1 1 get 1", "", 5, 1), "fn|true, fn, 3")
        self.assertEqual(seen("block 0 0 true fn 1 num 3 1 call 0 block 1 0 get 1", "", 5, 1), "3|true, 3")

    def test_part_and_free(self):
        self.assertEqual(seen("block 1 0 get 0 part 0 free 1", "[1, 2, 3]", 2), "|[1, 2, 3], 1, [2, 3]")
        self.assertEqual(seen("block 1 0 get 0 part 0 free 1", "[1, 2, 3]", 3), "|[1, 2, 3], 1")
        self.assertEqual(seen("block 1 0 get 0 part 0 free 3", "[1]", 3), "|")

    def test_refused(self):
        self.assertEqual(asked("block 1 0 get 0 true add ret", "5", run(), look(0), look(1)),
                         [[2, 3, 6], [0] + row("5, true|5"), [-2]])
        self.assertEqual(asked("block 1 0 get 0 fn 1 call 0", "5", run(), look(0)), [[2, 2, 7], [0] + row("5|5")])
        self.assertEqual(asked(FOLD, "[7]", run(), look(0), look(1), budget=0),
                         [[2, 6, 4], [0] + row("true|[7]"), [-2]])
        self.assertEqual(asked(FOLD, "[7]", run(), back(1), look(0), step(1), look(0), budget=0)[2::2],
                         [[0] + row("true|[7]")] * 2)

    def test_taken_back(self):
        self.assertEqual([text_or_refusal(told) for told in
                          asked(EXAMPLE, "1/2", run(), back(2), look(1), back(4), look(0), back(3), look(0))[2::2]],
                         ["5/2|1/2, 5", "fn, 5|1/2", "|1/2"])

    def test_a_new_run(self):
        answers = ask(load(1, EXAMPLE), begin(3, "1/2"), step(5), begin(3, "7"), look(0), look(1), load(1, "block 0 0"),
                      look(0))
        self.assertEqual(answers[3:], [[0], [0] + row("|7"), [-2], [2, 0, 0, 9], [0] + row("|7")])


class PartsTest(unittest.TestCase):
    def test_locals(self):
        ones = ["1"] * 1999
        self.assertEqual(seen("block 1 0", "[" + ",".join(ones) + "]", 0), "|[" + ", ".join(ones) + "]")
        code = "block 1 0 num 1 1 get 0 cons free 1 bind"
        for fewer, fits in ((1, True), (0, False)):
            inputs = "[" + ",".join(ones[fewer:]) + "]"
            self.assertEqual(seen(code, inputs, 5), "|[" + ", ".join(ones) + "]" if fits else [-6])

    def test_row(self):
        ones = ["1"] * 1999
        code = "block 1 0 num 1 1 get 0 cons free 1"
        for fewer, fits in ((1, True), (0, False)):
            inputs = "[" + ",".join(ones[fewer:]) + "]"
            self.assertEqual(seen(code, inputs, 4), "[" + ", ".join(ones) + "]|" if fits else [-6])

    def test_row_and_locals_together(self):
        for words, shown, parts in (("true", "true", 1), ("fn 1", "fn", 1), ("num -1/2 3", "-1/2", 1), ("nil", "[]", 1),
                                    ("nil nil", "[], []", 2), ("nil nil pair", "([], [])", 3),
                                    ("nil nil cons", "[[]]", 2)):
            code = "block 1 0 " + words + " block 0 0 true ret"
            steps = len([word for word in words.split() if word in ("true", "fn", "num", "nil", "pair", "cons")])
            for more in (-1, 0, 1):
                ones = ["1"] * (1999 - parts + more)
                wanted = shown + "|[" + ", ".join(ones) + "]" if more < 1 else [-6]
                self.assertEqual(seen(code, "[" + ",".join(ones) + "]", steps), wanted, words)

    def test_many_inputs(self):
        code = "block 60 0 " + "get 0 " * 60
        inputs = "[" + ",".join(["1"] * 32) + "]" + ",1" * 59
        shown = "[" + ", ".join(["1"] * 32) + "]"
        for steps in (1, 57, 58):
            wanted = ", ".join([shown] * steps) + "|" + ", ".join([shown] + ["1"] * 59)
            self.assertEqual(seen(code, inputs, steps), wanted if 33 * (steps + 1) + 59 <= 2000 else [-6])

    def test_a_value_that_holds_itself_many_times_over(self):
        code = "block 0 0 true bind " + "get 0 get 0 pair free 1 bind " * 40
        self.assertEqual(seen(code, "", 2 + 5 * 2), "|((true, true), (true, true))")
        self.assertNotEqual(seen(code, "", 2 + 5 * 9), [-6])
        self.assertEqual(seen(code, "", 2 + 5 * 10), [-6])
        self.assertEqual(seen(code, "", 2 + 5 * 40), [-6])

    def test_deep_values(self):
        for words in ("nil cons ", "true pair ", "bind true get 2 cons free 1 "):
            code = ("block 1 0 fn 1 nil get 0 fold 0 nil block 0 0 get 0 fn 2 ret block 1 0 get 0 " + words * 40
                    + "ret")
            ran, told, before = asked(code, "[" + ",".join(["1"] * 400) + "]", run(), look(0), look(1))
            self.assertEqual((ran[0], ran[2], told, before), (2, 7, [-6], [-2]))

    def test_nested(self):
        code = "block 0 0 nil " + "nil cons " * 140
        self.assertEqual(seen(code, "", 281), "[" * 141 + "]" * 141 + "|")


class LongNumbersTest(unittest.TestCase):
    def test_row(self):
        code = "block 0 0 " + LONG + " num 1 1 sub"
        self.assertEqual(seen(code, "", 6), [-6])
        self.assertEqual(seen(code, "", 7), [-6])
        self.assertEqual(seen(code, "", 8), NINES + "|")

    def test_locals(self):
        code = "block 0 0 " + LONG + " bind get 0 num -1 1 mul num 1 1 add"
        self.assertEqual(seen(code, "", 7), [-6])
        self.assertEqual(seen(code + " bind", "", 12), [-6])
        self.assertEqual(seen("block 0 0 " + LONG + " num 1 1 sub num -1 1 mul bind", "", 11), "|-" + NINES)

    def test_denominators(self):
        self.assertEqual(seen("block 0 0 " + LONG + " pow -1", "", 7), [-6])
        self.assertEqual(seen("block 0 0 " + LONG + " num 1 1 sub pow -1 bind true", "", 11), "true|1/" + NINES)

    def test_lowest_terms_count(self):
        code = "block 0 0 " + LONG + " bind get 0 get 0 div get 0 num 10 1 div"
        self.assertEqual(seen(code + " free 1", "", 6 + 4 + 4), "1, 1" + "0" * 999 + "|")

    def test_within_values(self):
        self.assertEqual(seen("block 0 0 " + LONG + " nil cons", "", 8), [-6])
        self.assertEqual(seen("block 0 0 true " + LONG + " pair bind", "", 9), [-6])


class BytesTest(unittest.TestCase):
    def test_row_and_locals(self):
        inside = list_text(3995)
        for digits, fits in ((1, True), (7, True), (8, False)):
            code = "block 1 0 get 0 num " + "3" * digits + " 1"
            wanted = inside + ", " + "3" * digits + "|" + inside
            self.assertEqual(len(wanted), 7993 + digits)
            self.assertEqual(seen(code, inside, 2), wanted if fits else [-6])

    def test_locals(self):
        inside = list_text(3995)
        for digits, fits in ((5, True), (6, False)):
            code = "block 1 0 get 0 bind num " + "3" * digits + " 1 bind"
            wanted = "|" + inside + ", " + inside + ", " + "3" * digits
            self.assertEqual(len(wanted), 7995 + digits)
            self.assertEqual(seen(code, inside, 4), wanted if fits else [-6])

    def test_row_alone(self):
        inside = list_text(3996)
        for digits, fits in ((3, True), (4, False)):
            code = "block 1 0 get 0 get 0 num " + "3" * digits + " 1 free 1"
            wanted = inside + ", " + inside + ", " + "3" * digits + "|"
            self.assertEqual(len(wanted), 7997 + digits)
            self.assertEqual(seen(code, inside, 4), wanted if fits else [-6])


if __name__ == "__main__":
    unittest.main()
