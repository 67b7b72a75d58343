"""Promise 9: answer."""

import unittest

from tests.calling import answer, ask, asked, back, begin, list_text, load, row, run, step, with_ended

EXAMPLE = "block 1 0 get 0 fn 1 num 5 1 call 1 ret block 1 0 get 0 get 1 mul ret"
INPUT = "block 1 0 get 0 ret"
# 10^1000, with a weight of 11.
LONG = "num 1" + "0" * 99 + " 1 pow 9 num 1" + "0" * 99 + " 1 mul num 1" + "0" * 10 + " 1 mul"
NINES = "9" * 1000


def wrapped(outer, inner):
    """Code that puts a list around another, beginning with the empty one: outer times 100 and inner times."""
    return ("block 0 0 fn 1 nil nil bind " + "nil get 0 cons free 1 bind " * outer + "get 0 fold 0 " + "nil cons " * inner
            + "ret block 0 0 get 0 fn 2 ret block 1 0 get 0 " + "nil cons " * 100 + "ret")


def written(number):
    """Words that give a whole number with more digits than a fraction text may have."""
    words = ""
    for at in range(0, len(str(number)), 90):
        digits = str(number)[at:at + 90]
        words += "num " + digits + " 1 " if at == 0 else "num 1" + "0" * len(digits) + " 1 mul num " + digits + " 1 add "
    return words.strip()


class RefusalTest(unittest.TestCase):
    def test_no_run(self):
        self.assertEqual(ask(answer()), [[-3]])
        self.assertEqual(ask(load(1, EXAMPLE), answer()), [[0], [-3]])
        self.assertEqual(ask(load(1, EXAMPLE), begin(3, "1"), run(), load(1, EXAMPLE), answer())[3:], [[0], [-3]])

    def test_not_ended(self):
        self.assertEqual(asked(EXAMPLE, "1/2", answer(), step(8), answer(), step(1), answer(), back(1), answer()),
                         [[-9], [0, 8], [-9], [1, 1], [0] + row("5/2"), [8], [-9]])

    def test_refused(self):
        for words in ("num 1 1 num 0 1 div", "num 2 1 root", "num 1 200 pow 2", "fn 0 nil call 0", "fn 0 nil call 161",
                      "nil fst", "true"):
            ran, told = asked("block 0 0 " + words, "", run(), answer(), budget=0)
            self.assertEqual((ran[0], told), (2, [-9]), words)

    def test_a_new_run(self):
        answers = ask(load(1, EXAMPLE), begin(3, "1/2"), run(), begin(3, "1/3"), answer(), run(), answer())
        self.assertEqual(answers[3:], [[0], [-9], [1, 9], [0] + row("5/3")])

    def test_a_refusal_leaves_the_run(self):
        self.assertEqual(asked("block 0 0 " + LONG + " ret", "", run(), answer(), answer(), back(1), step(1), answer()),
                         [[1, 7], [-6], [-6], [6], [1, 1], [-6]])


class ShownTest(unittest.TestCase):
    def test_example(self):
        self.assertEqual(asked(EXAMPLE, "1/2", run(), answer(), budget=3, checked=1), [[1, 9], [0, 53, 47, 50]])

    def test_inputs(self):
        for inputs, shown in (
            ("0", "0"), ("-0", "0"), ("0/7", "0"), ("-0/7", "0"), ("5", "5"), ("-5", "-5"), ("007", "7"), ("6/4", "3/2"),
            ("-6/4", "-3/2"), ("-4/2", "-2"), ("1/3", "1/3"), ("12/1", "12"), (" true ", "true"), ("false", "false"),
            ("[]", "[]"), ("[ ]", "[]"), ("[1]", "[1]"), ("[1,2]", "[1, 2]"), ("( 1,2 )", "(1, 2)"),
            ("[[],[[]],[1,[2]]]", "[[], [[]], [1, [2]]]"), ("((1,2),(3,4))", "((1, 2), (3, 4))"),
            ("[(true,[]),(false,[-1/2])]", "[(true, []), (false, [-1/2])]"), ("([1,2],[3])", "([1, 2], [3])"),
            ("9" * 100 + "/" + "7" * 100, "9/7"), ("1" * 100 + "/" + "2" * 99, "1" * 100 + "/" + "2" * 99),
        ):
            self.assertEqual(with_ended(INPUT, inputs), shown, inputs)

    def test_nested_inputs(self):
        for inputs in ("[" * 40 + "]" * 40, "[" * 38 + "(1, [2])" + "]" * 38, "(" * 40 + "true" + ", 0)" * 40):
            self.assertEqual(with_ended(INPUT, inputs), inputs)

    def test_values_of_a_run(self):
        for words, shown in (
            ("true", "true"), ("false", "false"), ("nil", "[]"), ("fn 1", "fn"), ("num -6/4 200", "-3/2"),
            ("num 1 1 num 3 1 less", "true"), ("nil nil pair", "([], [])"), ("fn 1 nil cons", "[fn]"),
            ("fn 1 fn 1 pair", "(fn, fn)"), ("num 1 1 num 2 1 nil cons cons", "[1, 2]"),
            ("true fn 1 nil cons cons num 1/2 3 pair nil cons", "[([true, fn], 1/2)]"),
            ("num 2 1 num 4 1 div", "1/2"), ("num 2 1 num -4 1 div", "-1/2"), ("num 1/2 1 num 1/2 1 add", "1"),
            ("num 1/2 1 num 1/2 1 sub", "0"), ("num -2 1 pow -3", "-1/8"), ("num 8 1 num 18 1 div root", "2/3"),
            ("num -7 1 num 2 1 floor", "-4"), ("num -7/2 1 num 2/3 1 rest", "1/2"),
            ("num 1/3 1 num -1/6 1 div", "-2"), ("num 0 1 num -7 1 div", "0"), ("num 5 1 pow 0", "1"),
        ):
            self.assertEqual(with_ended("block 0 0 " + words + " ret block 0 0 true ret"), shown, words)

    def test_what_a_function_was_made_with_is_not_shown(self):
        self.assertEqual(with_ended("block 0 0 num 1 1 true fn 1 ret block 2 0 true ret"), "fn")
        self.assertEqual(with_ended("block 0 0 " + LONG + " fn 1 ret block 1 0 true ret"), "fn")
        self.assertEqual(with_ended("block 1 0 get 0 get 0 pair get 0 pair fn 1 ret block 1 0 true ret",
                                    "[" + ",".join(["1"] * 1999) + "]"), "fn")

    def test_the_value_that_ret_took(self):
        self.assertEqual(with_ended("block 0 0 true num 3 1 ret"), "3")

    def test_answer_changes_nothing(self):
        told = [0] + row("[1, 2]")
        self.assertEqual(asked(INPUT, "[1, 2]", run(), answer(), answer(), back(1), run(), answer()),
                         [[1, 2], told, told, [1], [1, 2], told])


class PartsTest(unittest.TestCase):
    def test_lists(self):
        ones = ["1"] * 1999
        self.assertEqual(with_ended(INPUT, "[" + ",".join(ones) + "]"), "[" + ", ".join(ones) + "]")
        self.assertEqual(with_ended("block 1 0 num 1 1 get 0 cons ret", "[" + ",".join(ones) + "]"), [-6])
        self.assertEqual(with_ended("block 1 0 num 1 1 get 0 cons ret", "[" + ",".join(ones[1:]) + "]"),
                         "[" + ", ".join(ones) + "]")

    def test_each_sort_is_a_part(self):
        for made, shown in (("num 3 1", "3"), ("true", "true"), ("fn 1", "fn"), ("nil", "[]")):
            code = "block 1 0 " + made + " get 0 cons ret block 0 0 true ret"
            for count, fits in ((1998, True), (1999, False)):
                inputs = "[" + ",".join(["1"] * count) + "]"
                wanted = "[" + ", ".join([shown] + ["1"] * count) + "]" if fits else [-6]
                self.assertEqual(with_ended(code, inputs), wanted, made)

    def test_pairs(self):
        code = "block 1 0 num 5 1 get 0 pair ret"
        for count, fits in ((1997, True), (1998, False)):
            ones = ["1"] * count
            wanted = "(5, [" + ", ".join(ones) + "])" if fits else [-6]
            self.assertEqual(with_ended(code, "[" + ",".join(ones) + "]"), wanted)
        code = "block 1 0 get 0 get 0 pair ret"
        for count, fits in ((998, True), (999, False)):
            shown = "[" + ", ".join(["1"] * count) + "]"
            self.assertEqual(with_ended(code, shown), "(" + shown + ", " + shown + ")" if fits else [-6])

    def test_nested_lists(self):
        for outer, inner, fits in ((0, 1, True), (10, 0, True), (19, 99, True), (20, 0, False), (20, 90, False),
                                   (50, 0, False)):
            depth = 100 * outer + inner
            wanted = "[" * (depth + 1) + "]" * (depth + 1) if fits else [-6]
            self.assertEqual(with_ended(wrapped(outer, inner)), wanted)

    def test_a_value_that_holds_itself_many_times_over(self):
        for word, brackets in (("pair", "()"), ("nil cons cons", "[]")):
            shown = "true"
            for times in range(41):
                code = "block 0 0 true bind " + ("get 0 get 0 " + word + " free 1 bind ") * times + "get 0 ret"
                self.assertEqual(with_ended(code), shown if times < 10 else [-6], (word, times))
                if times < 10:
                    shown = brackets[0] + shown + ", " + shown + brackets[1]

    def test_lists_of_long_lists_many_times_over(self):
        inputs = "[" + ",".join(["1"] * 1900) + "]"
        code = "block 1 0 get 0 bind " + "get 1 get 0 cons free 1 bind " * 50 + "get 1 ret"
        self.assertEqual(with_ended(code, inputs), [-6])


class DeepTest(unittest.TestCase):
    """Values that nest far deeper than calls may."""

    def grown(self, words):
        """What is answered of a value that is made of another by the words, 40 times at each of 500 calls."""
        code = ("block 1 0 fn 1 nil get 0 fold 0 ret block 0 0 get 0 fn 2 ret block 1 0 get 0 "
                + (words + " ") * 40 + "ret block 1 0 true ret")
        ran, told = asked(code, "[" + ",".join(["1"] * 500) + "]", run(), answer())
        self.assertEqual(ran[0], 1)
        return told

    def test_long_list(self):
        self.assertEqual(self.grown("bind true get 2 cons free 1"), [-6])

    def test_deep_pairs(self):
        self.assertEqual(self.grown("true pair"), [-6])
        self.assertEqual(self.grown("bind true get 2 pair free 1"), [-6])

    def test_deep_lists(self):
        self.assertEqual(self.grown("nil cons"), [-6])
        self.assertEqual(self.grown("nil cons nil cons true pair"), [-6])

    def test_deep_functions(self):
        self.assertEqual(self.grown("fn 3"), [0] + row("fn"))
        self.assertEqual(self.grown("nil cons fn 3"), [0] + row("fn"))


class LongNumbersTest(unittest.TestCase):
    def shown(self, words):
        return with_ended("block 0 0 " + words + " ret block 1 0 true ret")

    def test_whole_numbers(self):
        self.assertEqual(self.shown(LONG + " num 1 1 sub"), NINES)
        self.assertEqual(self.shown(LONG), [-6])
        self.assertEqual(self.shown(LONG + " num 1 1 add"), [-6])
        self.assertEqual(self.shown(LONG + " num -1 1 mul"), [-6])
        self.assertEqual(self.shown(LONG + " num -1 1 mul num 1 1 add"), "-" + NINES)
        self.assertEqual(self.shown(LONG + " pow 9"), [-6])

    def test_denominators(self):
        self.assertEqual(self.shown(LONG + " pow -1"), [-6])
        self.assertEqual(self.shown(LONG + " num 1 1 sub pow -1"), "1/" + NINES)
        self.assertEqual(self.shown(LONG + " num 1 1 add pow -1"), [-6])
        self.assertEqual(self.shown("num -7 1 " + LONG + " num 1 1 sub div"), "-7/" + NINES)
        self.assertEqual(self.shown(LONG + " bind get 0 num 1 1 add get 0 num 1 1 sub div"), [-6])
        self.assertEqual(self.shown(LONG + " bind get 0 num 2 1 sub get 0 num 1 1 sub div"), "9" * 999 + "8/" + NINES)
        self.assertEqual(self.shown(LONG + " bind get 0 num 1 1 sub get 0 num 1 1 add div"), [-6])

    def test_lowest_terms_count(self):
        self.assertEqual(self.shown(LONG + " num 10 1 div"), "1" + "0" * 999)
        self.assertEqual(self.shown(LONG + " num 2 1 div"), "5" + "0" * 999)
        self.assertEqual(self.shown(LONG + " bind get 0 get 0 div"), "1")
        self.assertEqual(self.shown(LONG + " bind get 0 get 0 sub"), "0")
        self.assertEqual(self.shown(LONG + " pow 9 bind get 0 num -3/7 1 mul get 0 div"), "-3/7")
        self.assertEqual(self.shown(LONG + " bind num 5 1 get 0 div num 1" + "0" * 80 + " 1 mul num 3 1 div"),
                         "1/6" + "0" * 919)
        self.assertEqual(self.shown(LONG + " pow 2 bind get 0 num 1 1 add get 0 div get 0 mul get 0 sub"), "1")

    def test_lowest_terms_that_take_many_divisions(self):
        # Neighbours in Fibonacci's row take the most divisions until their common divisor is found.
        row_of_three = [1, 1, 2]
        while row_of_three[2] < 10 ** 1000:
            row_of_three = row_of_three[1:] + [row_of_three[1] + row_of_three[2]]
        least, middle, most = row_of_three
        for top, bottom, fits in ((least, middle, True), (middle, least, True), (middle, most, False),
                                  (most, middle, False)):
            for sign in ("", "-"):
                words = (written(top) + " " + written(bottom) + " div num " + sign + "1 1 mul "
                         + "num 123456789/7 1 pow 9 bind get 0 mul get 0 div")
                wanted = sign + str(top) + "/" + str(bottom) if fits else [-6]
                self.assertEqual(self.shown(words), wanted)

    def test_among_other_parts(self):
        small = LONG + " num 1 1 sub"
        self.assertEqual(self.shown("true " + LONG + " pair"), [-6])
        self.assertEqual(self.shown("true " + small + " pair"), "(true, " + NINES + ")")
        self.assertEqual(self.shown(LONG + " nil cons nil cons"), [-6])
        self.assertEqual(self.shown(small + " nil cons nil cons"), "[[" + NINES + "]]")
        self.assertEqual(self.shown("num 1 1 " + LONG + " nil cons cons"), [-6])
        self.assertEqual(self.shown(LONG + " fn 1 nil cons"), "[fn]")

    def test_longest(self):
        long = "num " + "9" * 99 + "7/" + "1" + "0" * 98 + "3 1 pow 9 pow 9 pow 2"
        self.assertEqual(self.shown(long), [-6])
        self.assertEqual(self.shown(long + " root num " + "9" * 99 + "7/" + "1" + "0" * 98 + "3 1 pow 9 pow 4 div"), [-6])


class BytesTest(unittest.TestCase):
    def test_texts(self):
        for length, digits, fits in ((3995, 2, True), (3995, 3, False), (3996, 1, False), (3994, 4, True),
                                     (3994, 5, False), (3995, 1, True)):
            inside = list_text(length)
            code = "block 1 0 get 0 get 0 pair num " + "3" * digits + " 1 pair ret"
            wanted = "((" + inside + ", " + inside + "), " + "3" * digits + ")"
            self.assertEqual(len(wanted), 2 * length + 8 + digits)
            self.assertEqual(len(wanted) <= 8000, fits)
            self.assertEqual(with_ended(code, inside), wanted if fits else [-6])

    def test_signs_and_bars_count(self):
        inside = list_text(3995)
        for fraction, fits in (("-1", True), ("-11", False), ("1/2", False), ("11", True)):
            code = "block 1 0 get 0 get 0 pair num " + fraction + " 1 pair ret"
            wanted = "((" + inside + ", " + inside + "), " + fraction + ")"
            self.assertEqual(with_ended(code, inside), wanted if fits else [-6])

    def test_words_count(self):
        for length, made, shown in ((3994, "true", "true"), (3995, "fn 1", "fn"), (3995, "nil", "[]")):
            for fewer, fits in ((0, True), (-1, False)):
                inside = list_text(length - fewer)
                code = "block 1 0 get 0 get 0 pair " + made + " pair ret block 0 0 true ret"
                wanted = "((" + inside + ", " + inside + "), " + shown + ")"
                self.assertEqual(len(wanted), 8000 if fits else 8002)
                self.assertEqual(with_ended(code, inside), wanted if fits else [-6])


if __name__ == "__main__":
    unittest.main()
