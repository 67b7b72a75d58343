"""Promise 6: step, and what each instruction does."""

import unittest

from tests.calling import ask, begin, last_refusal, load, ran, step

# Ends if the number on the working row is the one told, else is refused as wrong in its sort.
IS = "num {0} 1 same unless 2 true ret nil fst"
# Ends if the truth on the working row is true.
HOLDS = "unless 2 true ret nil fst"


class StepTest(unittest.TestCase):
    def gives(self, words, fraction, inputs=""):
        """The words (of block 0, with what blocks follow behind a bar) give this fraction."""
        self.assertTrue(self.has(words, fraction, inputs), (words, fraction))
        self.assertFalse(self.has(words, "355/113", inputs), words)

    def has(self, words, fraction, inputs):
        parts = words.split("|")
        count = len(inputs.split(";")) if inputs else 0
        code = "block " + str(count) + " 0 " + parts[0] + " pow 1 " + IS.format(fraction)
        refusal = last_refusal(" ".join([code] + parts[1:]), inputs.replace(";", ","))
        self.assertIn(refusal, (0, 6), words)
        return refusal == 0

    def weighs(self, words, weight):
        """The words give a number of this weight."""
        code = "block 0 0 " + words
        self.assertEqual(last_refusal(code + " num 0 " + str(201 - weight) + " add ret"), 3, words)
        if weight < 200:
            self.assertEqual(last_refusal(code + " num 0 " + str(200 - weight) + " add ret"), 0, words)

    def holds(self, words, wanted):
        """The words give this truth."""
        self.assertEqual(last_refusal("block 0 0 " + words + " " + HOLDS), 0 if wanted else 6, words)

    def refused(self, words, number, steps=None, budget=1000):
        """A run of the words is refused with this number at its last word."""
        stepped = ran("block 0 0 " + words, "", budget)
        self.assertEqual((stepped[0], stepped[2:]), (2, [number]), words)
        if steps is not None:
            self.assertEqual(stepped[1], steps, words)


class CountTest(StepTest):
    LOOP = "block 0 0 fn 1 nil call 0 ret block 0 1 get 0 get 1 call 0 ret"

    def test_no_run(self):
        for n in (-1, 0, 1, 100001):
            self.assertEqual(ask(step(n)), [[-3]])
            self.assertEqual(ask(load(1, "block 0 0 true ret"), step(n)), [[0], [-3]])

    def test_n(self):
        answers = ask(load(1, self.LOOP), begin(1000, ""), step(-10 ** 18), step(-1), step(100001), step(10 ** 18),
                      step(0), step(1), step(2), step(0), step(100000), step(0), step(1))
        self.assertEqual(answers[2:], [[-1], [-1], [-1], [-1], [0, 0], [0, 1], [0, 2], [0, 0], [2, 3000, 4],
                                       [2, 0, 4], [2, 0, 4]])

    def test_a_hundred_thousand(self):
        code = "block 0 0 fn 1 nil call 0 ret block 0 1 " + "skip 0 " * 297 + "get 0 get 1 call 0"
        answers = ask(load(0, code), begin(1000, ""), step(100000), step(100000), step(99999), step(1), step(5))
        self.assertEqual(answers[2:], [[0, 100000], [0, 100000], [0, 99999], [0, 1], [2, 3, 4]])

    def test_example(self):
        code = "block 1 0 get 0 fn 1 num 5 1 call 1 ret block 1 0 get 0 get 1 mul ret"
        answers = ask(load(1, code), begin(3, "1/2"), step(8), step(0), step(1), step(1), step(0))
        self.assertEqual(answers[2:], [[0, 8], [0, 0], [1, 1], [1, 0], [1, 0]])
        self.assertEqual(ran(code, "1/2", 3, 1), [1, 9])

    def test_steps_after_a_refusal(self):
        answers = ask(load(0, "block 0 0 true root"), begin(0, ""), step(1), step(1), step(1), step(0))
        self.assertEqual(answers[2:], [[0, 1], [2, 1, 6], [2, 0, 6], [2, 0, 6]])

    def test_refusals_of_the_call_leave_the_run(self):
        answers = ask(load(1, "block 0 0 true ret"), begin(0, ""), step(1), step(-1), step(100001), step(1))
        self.assertEqual(answers[2:], [[0, 1], [-1], [-1], [1, 1]])

    def test_missing_instruction_counts_only_when_it_is_to_be_done(self):
        answers = ask(load(0, "block 0 0 true"), begin(0, ""), step(1), step(0), step(1), step(1))
        self.assertEqual(answers[2:], [[0, 1], [0, 0], [2, 1, 7], [2, 0, 7]])
        self.assertEqual(ask(load(0, "block 0 0"), begin(0, ""), step(0), step(9))[2:], [[0, 0], [2, 1, 7]])


class NumbersTest(StepTest):
    def test_num(self):
        for fraction in ("0", "-7", "1/3", "-" + "9" * 100 + "/" + "7" * 100):
            self.gives("num " + fraction + " 1", fraction)
        for weight in (1, 2, 199, 200):
            self.weighs("num 5 " + str(weight), weight)

    def test_inputs(self):
        self.gives("get 0", "-2/3", "-4/6")
        self.gives("get 1", "5", "1; 5; 7")
        self.assertEqual(last_refusal("block 1 0 get 0 num 0 199 add ret", "7"), 0)
        self.assertEqual(last_refusal("block 1 0 get 0 num 0 200 add ret", "7"), 3)

    def test_add_sub_mul_div(self):
        for a, b, word, result in (
            ("1/2", "1/3", "add", "5/6"), ("1/2", "-1/2", "add", "0"), ("-7", "2", "add", "-5"),
            ("1/2", "1/3", "sub", "1/6"), ("1/3", "1/2", "sub", "-1/6"), ("5", "5", "sub", "0"),
            ("2/3", "3/4", "mul", "1/2"), ("-2/3", "3", "mul", "-2"), ("0", "-3", "mul", "0"),
            ("1/2", "1/3", "div", "3/2"), ("1", "-3", "div", "-1/3"), ("-1/2", "-3/5", "div", "5/6"),
            ("0", "-7", "div", "0"), ("3", "1/7", "div", "21"),
        ):
            self.gives("num " + a + " 1 num " + b + " 1 " + word, result)

    def test_floor_and_rest(self):
        for a, b, floor, rest in (
            ("7", "2", "3", "1"), ("-7", "2", "-4", "1"), ("7", "-2", "-4", "-1"), ("-7", "-2", "3", "-1"),
            ("6", "3", "2", "0"), ("-6", "3", "-2", "0"), ("0", "5", "0", "0"), ("7/2", "2/3", "5", "1/6"),
            ("-7/2", "2/3", "-6", "1/2"), ("7/2", "-2/3", "-6", "-1/2"), ("-7/2", "-2/3", "5", "-1/6"),
            ("1/3", "1", "0", "1/3"), ("-1/3", "1", "-1", "2/3"), ("3/4", "1/4", "3", "0"),
        ):
            self.gives("num " + a + " 1 num " + b + " 1 floor", floor)
            self.gives("num " + a + " 1 num " + b + " 1 rest", rest)

    def test_weights_of_two(self):
        for word in ("add", "sub", "mul", "div", "floor", "rest"):
            self.weighs("num 1 3 num 2 5 " + word, 8)
            self.weighs("num 1 100 num 2 100 " + word, 200)
            self.refused("num 1 100 num 2 101 " + word, 3, 3)

    def test_pow(self):
        for a, power, result in (
            ("2", "0", "1"), ("0", "0", "1"), ("0", "-0", "1"), ("0", "5", "0"), ("2", "1", "2"), ("2", "9", "512"),
            ("-2", "3", "-8"), ("-2", "4", "16"), ("2/3", "2", "4/9"), ("2/3", "-2", "9/4"), ("-2", "-3", "-1/8"),
            ("-2/3", "-1", "-3/2"), ("-2/3", "-2", "9/4"), ("2", "-9", "1/512"),
        ):
            self.gives("num " + a + " 1 pow " + power, result)
        for weight, power, wanted in ((7, "0", 1), (200, "0", 1), (200, "1", 200), (200, "-1", 200), (100, "2", 200),
                                      (100, "-2", 200), (22, "9", 198), (22, "-9", 198), (1, "3", 3)):
            self.weighs("num 2 " + str(weight) + " pow " + power, wanted)
        for weight, power in ((101, "2"), (101, "-2"), (23, "9"), (23, "-9"), (67, "3")):
            self.refused("num 2 " + str(weight) + " pow " + power, 3, 2)

    def test_root(self):
        for square, root in (("0", "0"), ("1", "1"), ("4", "2"), ("9/4", "3/2"), ("1/49", "1/7"), ("8/18", "2/3"),
                             ("1" + "0" * 98, "1" + "0" * 49)):
            self.gives("num " + square + " 1 root", root)
        self.weighs("num 4 17 root", 17)
        self.weighs("num 4 200 root", 200)
        for square in ("-1", "-4", "2", "1/2", "4/3", "3/4", "12/9", "1" + "0" * 99, "-1/4"):
            self.refused("num " + square + " 1 root", 2, 2)

    def test_root_of_what_was_worked_out(self):
        self.gives("num 2 1 num 8 1 mul root", "4")
        self.gives("num 2 1 num 8 1 div root", "1/2")
        self.gives("num 2 1 num 3 1 div num 3 1 num 2 1 div mul root", "1")
        self.gives("num 1/2 1 num -1/2 1 add root", "0")
        long = "num " + "9" * 99 + "7/" + "1" + "0" * 98 + "3 1"
        self.gives(long + " pow 9 pow 8 root " + long + " pow 9 pow 4 div", "1")
        self.refused(long + " pow 9 pow 9 " + "root", 2)

    def test_root_near_squares(self):
        for root in list(range(0, 70)) + [10 ** 9, 2 ** 31 - 1, 2 ** 31, 2 ** 32, 2 ** 60 - 1, 3 ** 40, 10 ** 49 - 1]:
            square = root * root
            self.gives("num " + str(square) + " 1 root", str(root))
            if root > 1:
                self.refused("num " + str(square + 1) + " 1 root", 2)
                self.refused("num " + str(square - 1) + " 1 root", 2)

    def test_less_and_same(self):
        for a, b, less, same in (("1", "2", True, False), ("2", "1", False, False), ("1", "1", False, True),
                                 ("1/3", "1/2", True, False), ("-1/2", "-1/3", True, False), ("2/4", "3/6", False, True),
                                 ("-1", "1", True, False), ("0", "-0", False, True), ("-1/2", "1/2", True, False)):
            self.holds("num " + a + " 200 num " + b + " 200 less", less)
            self.holds("num " + a + " 200 num " + b + " 200 same", same)
        self.holds("num 1 1 num 3 1 div num 2 1 mul num 2/3 1 same", True)

    def test_dividing_by_zero(self):
        for word in ("div", "floor", "rest"):
            self.refused("num 1 1 num 0 1 " + word, 1, 3)
            self.refused("num 0 1 num 0 1 " + word, 1, 3)
            self.refused("num 1 1 num 1 1 num 1 1 sub " + word, 1, 5)
        for power in ("-1", "-9"):
            self.refused("num 0 1 pow " + power, 1, 2)

    def test_large_numbers_are_not_looked_at(self):
        long = "num " + "9" * 100 + "/" + "8" * 99 + "7 1 pow 9 pow 9 pow 2"
        self.gives(long + " num 0 1 mul", "0")
        self.gives(long + " bind get 0 num 1 1 pow 0 mul get 0 pow 0 mul num 0 1 mul", "0")


class ValuesTest(StepTest):
    def test_truths(self):
        self.holds("true", True)
        self.holds("false", False)

    def test_unless_and_skip(self):
        self.gives("true unless 2 num 1 1 skip 1 num 2 1", "1")
        self.gives("false unless 2 num 1 1 skip 1 num 2 1", "2")
        self.gives("true unless 0 num 5 1", "5")
        self.gives("false unless 0 num 5 1", "5")
        self.gives("skip 0 num 5 1", "5")
        self.gives("num 1 1 skip 2 true true num 2 1 add", "3")

    def test_get_bind_free(self):
        self.gives("num 1 1 bind num 2 1 bind num 3 1 bind get 1", "2")
        self.gives("num 1 1 bind num 2 1 bind free 1 num 3 1 bind get 1", "3")
        self.gives("num 1 1 bind num 2 1 bind free 2 num 3 1 bind get 0", "3")
        self.gives("num 1 1 num 2 1 bind", "1")
        self.gives("num 4 1 bind free 0 get 0 get 0 mul", "16")
        self.refused("num 1 1 bind get 1", 7, 3)
        self.refused("get 0", 7, 1)
        self.refused("num 1 1 bind free 1 get 0", 7, 4)
        self.refused("num 1 1 bind free 2", 7, 3)
        self.refused("free 1", 7, 1)

    def test_free_may_take_inputs_where_it_is_not_checked(self):
        self.assertEqual(ran("block 2 0 free 1 get 0 ret", "1, 2"), [1, 3])
        self.assertEqual(ran("block 2 0 free 1 get 1 ret", "1, 2"), [2, 2, 7])
        self.assertEqual(ran("block 2 0 free 2 true ret", "1, 2"), [1, 3])
        self.assertEqual(ran("block 2 0 free 3 true ret", "1, 2"), [2, 1, 7])

    def test_pairs(self):
        self.gives("num 1 1 num 2 1 pair fst", "1")
        self.gives("num 1 1 num 2 1 pair snd", "2")
        self.gives("num 1 1 num 2 1 pair num 3 1 pair fst snd", "2")
        self.gives("get 0 snd fst", "8", "(7, (8, 9))")

    def test_lists(self):
        self.gives("num 1 1 num 2 1 nil cons cons part 2 get 0 skip 1 num 9 1", "1")
        self.gives("num 1 1 num 2 1 nil cons cons part 5 get 1 part 3 get 2 skip 2 num 8 1 skip 0 num 9 1", "9")
        self.gives("num 1 1 num 2 1 nil cons cons part 4 get 1 part 2 get 2 skip 1 num 8 1", "2")
        self.gives("nil part 2 num 1 1 skip 1 num 2 1", "2")
        self.gives("num 1 1 nil cons part 5 get 1 part 2 num 3 1 skip 1 num 4 1", "4")
        self.gives("get 0 part 4 get 2 part 2 get 3 skip 1 num 9 1", "6", "[5, 6]")

    def test_part_leaves_the_locals_where_a_list_is_empty(self):
        self.refused("nil part 0 get 0", 7, 3)
        self.assertEqual(ran("block 0 0 true nil cons part 0 get 1 ret"), [1, 6])
        self.refused("true nil cons part 0 get 2", 7, 5)

    def test_ret_gives_the_last_value(self):
        self.assertEqual(ran("block 0 0 true nil ret"), [1, 3])
        self.gives("fn 1 true call 0 | block 0 0 num 1 1 num 2 1 ret", "2")

    def test_ret_leaves_the_rest_of_the_row_out(self):
        self.refused("fn 1 true call 0 add block 0 0 num 1 1 num 2 1 ret", 7, 7)


class CallTest(StepTest):
    def test_locals_of_a_call(self):
        self.gives("num 1 1 num 2 1 fn 1 num 3 1 call 1 | block 2 0 get 0 ret", "1")
        self.gives("num 1 1 num 2 1 fn 1 num 3 1 call 1 | block 2 0 get 1 ret", "2")
        self.gives("num 1 1 num 2 1 fn 1 num 3 1 call 1 | block 2 0 get 2 ret", "3")
        self.gives("num 1 1 num 2 1 fn 1 num 3 1 call 1 | block 2 1 get 3 ret", "3")
        self.refused("num 1 1 fn 1 num 3 1 call 1 block 1 0 get 2 ret", 7, 5)
        self.refused("num 1 1 fn 1 num 3 1 call 1 block 1 1 get 3 ret", 7, 5)

    def test_itself(self):
        down = "block 0 1 get 1 num 0 1 same unless 2 num 7 1 ret get 0 get 1 num 1 1 sub call 1 ret"
        self.gives("fn 1 num 3 1 call 1 | " + down, "7")

    def test_the_row_of_the_frame_below_is_kept(self):
        self.gives("num 5 1 fn 1 num 1 1 call 1 sub | block 0 0 num 9 1 get 0 ret", "4")

    def test_a_function_of_block_0(self):
        code = "block 1 0 get 0 fn 0 num 2 1 call 1 ret"
        self.assertEqual(ran(code, "1", 0), [2, 4, 4])
        code = "block 1 0 get 0 unless 2 get 1 ret false fn 0 num 2 1 call 1 ret"
        self.assertEqual(ran(code, "true", 0), [2, 3, 7])
        self.assertEqual(ran(code, "false", 0), [2, 6, 4])
        code = "block 1 0 get 0 unless 2 get 1 ret true fn 0 num 4 1 call 1 root ret"
        self.assertEqual(ran(code, "false", 1), [1, 12])

    def test_fn(self):
        self.refused("fn 1", 7, 1)
        self.refused("fn 999", 7, 1)
        self.refused("true fn 1 block 2 0", 7, 2)
        self.assertEqual(ran("block 0 0 true true fn 1 ret block 2 0"), [1, 4])

    def test_empty_block_is_broken_when_called(self):
        self.refused("fn 1 nil call 0 block 0 0", 7, 4)

    def test_budget(self):
        code = "block 0 0 fn 1 nil call 0 ret block 0 1 get 0 get 1 call 0 ret"
        for budget in (0, 1, 2, 999, 1000):
            self.assertEqual(ran(code, "", budget), [2, 3 + 3 * budget, 4])

    def test_depth(self):
        code = "block 0 0 fn 1 nil call {0} ret block 0 1 get 0 get 1 call {1} ret"
        self.assertEqual(ran(code.format(1, 1)), [2, 3 + 3 * 160, 5])
        self.assertEqual(ran(code.format(0, 1)), [2, 3 + 3 * 161, 5])
        self.assertEqual(ran(code.format(160, 1)), [2, 6, 5])
        self.assertEqual(ran(code.format(160, 0)), [2, 3003, 4])
        self.assertEqual(ran(code.format(161, 0)), [2, 3, 5])
        self.assertEqual(ran(code.format(999, 0)), [2, 3, 5])
        self.assertEqual(ran(code.format(1, 40)), [2, 3 + 3 * 4, 5])

    def test_depth_is_that_of_the_frame(self):
        code = "block 0 0 fn 1 nil call 160 bind fn 1 nil call 160 ret block 0 0 true ret"
        self.assertEqual(ran(code), [1, 12])

    def test_order(self):
        self.refused("nil call 161", 7, 2, 0)
        self.refused("nil nil call 161", 6, 3, 0)
        self.refused("fn 1 nil call 161 block 0 0", 5, 3, 0)
        self.refused("fn 1 nil call 160 block 0 0", 4, 3, 0)


class FoldTest(StepTest):
    ADDING = "block 0 0 get 0 fn 2 ret block 1 0 get 0 get 1 add ret"
    # The result so far times 10, and the next one added to it: tells the order.
    DIGITS = "block 0 0 get 0 fn 2 ret block 1 0 get 0 num 10 1 mul get 1 add ret"

    def test_empty_list(self):
        self.gives("true num 5 1 nil fold 999", "5")
        self.assertEqual(ran("block 0 0 true true nil fold 999 ret", "", 0), [1, 6])

    def test_longer_lists(self):
        code = "block 1 0 fn 1 num 0 1 get 0 fold 1 ret " + self.ADDING
        self.assertEqual(ran(code, "[]"), [1, 6])
        self.assertEqual(ran(code, "[1]"), [1, 15])
        self.assertEqual(ran(code, "[1, 2, 3]"), [1, 33])
        three = "num 1 1 num 2 1 num 3 1 nil cons cons cons"
        self.gives("fn 1 num 0 1 " + three + " fold 1 | " + self.DIGITS, "123")
        self.gives("fn 1 num 4 1 " + three + " fold 1 | " + self.ADDING, "10")

    def test_calls(self):
        code = "block 1 0 fn 1 num 0 1 get 0 fold 1 ret " + self.ADDING
        self.assertEqual(ran(code, "[1, 2, 3]", 6), [1, 33])
        self.assertEqual(ran(code, "[1, 2, 3]", 5)[0::2], [2, 4])
        self.assertEqual(ran(code, "[1]", 0), [2, 5, 4])
        self.assertEqual(ran(code, "[1]", 1), [2, 9, 4])
        self.assertEqual(ran(code, "[1]", 2), [1, 15])

    def test_level(self):
        code = "block 1 0 fn 1 num 0 1 get 0 fold {0} ret " + self.ADDING
        self.assertEqual(ran(code.format(160), "[1, 2]"), [1, 24])
        self.assertEqual(ran(code.format(161), "[1, 2]"), [2, 5, 5])
        inner = "block 1 0 fn 3 get 0 call 100 ret " + self.ADDING + " block 0 0 fn 1 num 0 1 get 0 fold {0} ret"
        self.assertEqual(ran(inner.format(60), "[1]")[0], 1)
        self.assertEqual(ran(inner.format(61), "[1]")[0::2], [2, 5])
        self.assertEqual(ran(inner.format(61), "[]")[0], 1)

    def test_sorts(self):
        self.refused("true true true fold 0", 6, 4)
        self.refused("true true num 1 1 fold 0", 6, 4)
        self.refused("true true true nil cons fold 0", 6, 7)
        self.refused("fn 1 true true nil cons fold 0 block 0 0 true ret", 6, 10)
        self.refused("true true fold 0", 7, 3)

    def test_order_in_a_fold_frame(self):
        self.refused("true true true nil cons fold 999", 6, 7, 0)
        self.refused("fn 1 true true nil cons fold 161 block 0 0 true ret", 5, 7, 0)
        self.refused("fn 1 true true nil cons fold 160 block 0 0 true ret", 4, 7, 0)
        self.refused("fn 1 true true nil cons fold 0 block 0 0 true ret", 6, 10, 1)
        self.refused("fn 1 true true nil cons fold 0 block 0 0 fn 1 ret", 4, 10, 1)

    def test_the_result_may_be_of_any_sort(self):
        code = "fn 1 nil get 0 fold 1 part 2 get 1 skip 1 num 9 1 | block 0 0 get 0 fn 2 ret block 1 0 get 1 get 0 cons ret"
        self.gives(code, "7", "[5, 6, 7]")

    def test_fold_within_a_fold(self):
        code = ("block 1 0 fn 1 num 0 1 get 0 fold 1 num 21 1 same unless 2 true ret nil fst ret "
                "block 0 0 get 0 fn 2 ret block 1 0 fn 3 get 0 get 1 fold 1 ret "
                "block 0 0 get 0 fn 4 ret block 1 0 get 0 get 1 add ret")
        self.assertEqual(ran(code, "[[1, 2], [], [3, 4, 5], [6]]", 1000, 1)[0], 1)


class DeepTest(StepTest):
    """Values that are nested, or chained, far deeper than calls may be."""

    def grown(self, word):
        """A value that grows by 58 at each of 1000 calls."""
        more = "true get 2 " + word + " free 1 bind "
        code = ("block 0 0 fn 1 nil call 0 ret block 0 1 get 1 bind " + more * 58 + "get 0 get 2 call 0 ret "
                "block 2 0 true ret")
        answers = ask(load(1, code), begin(1000, ""), step(100000), step(100000), step(100000),
                      begin(1000, ""), step(100000), load(1, "block 0 0 true ret"))
        self.assertEqual(answers, [[0], [0], [0, 100000], [0, 100000], [2, 95003, 4], [0], [0, 100000], [0]])

    def test_long_list(self):
        self.grown("cons")

    def test_deep_pairs(self):
        self.grown("pair")

    def test_deep_functions(self):
        self.grown("fn 2")

    def test_many_frames(self):
        code = "block 0 0 fn 1 nil call 0 ret block 0 1 get 0 nil true nil cons fold 0 ret"
        self.assertEqual(ran(code), [2, 3 + 7 * 1000, 4])


class RefusalOrderTest(StepTest):
    def test_broken_ahead_of_sort(self):
        for word in ("add", "sub", "mul", "div", "floor", "rest", "less", "same", "cons", "pair", "call 0"):
            self.refused("true " + word, 7, 2)
            self.refused(word, 7, 1)
        for word in ("fst", "snd", "root", "pow 2", "bind", "ret", "unless 0", "part 0"):
            self.refused(word, 7, 1)
        self.refused("true true fold 0", 7, 3)

    def test_sorts(self):
        values = {"number": "num 1 1", "truth": "true", "list": "nil", "pair": "nil nil pair", "function": "fn 1"}
        one = {"unless 0": "truth", "part 0": "list", "fst": "pair", "snd": "pair", "pow 1": "number", "root": "number"}
        for word, wanted in one.items():
            for sort, made in values.items():
                refusal = last_refusal("block 0 0 " + made + " " + word + " true ret block 0 0 true ret")
                self.assertEqual(refusal, 0 if sort == wanted else 6, (word, sort))
        two = {"cons": (None, "list"), "pair": (None, None), "call 0": ("function", None)}
        for word in ("add", "sub", "mul", "div", "floor", "rest", "less", "same"):
            two[word] = ("number", "number")
        for word, wanted in two.items():
            for first, made in values.items():
                for second, other in values.items():
                    fits = wanted[0] in (None, first) and wanted[1] in (None, second)
                    code = "block 0 0 " + made + " " + other + " " + word + " ret block 0 0 true ret"
                    self.assertEqual(last_refusal(code), 0 if fits else 6, (word, first, second))

    def test_sort_ahead_of_zero_and_weight(self):
        for word in ("div", "floor", "rest"):
            self.refused("true num 0 1 " + word, 6, 3)
            self.refused("num 0 1 true " + word, 6, 3)

    def test_zero_and_root_ahead_of_weight(self):
        for word in ("div", "floor", "rest"):
            self.refused("num 1 200 num 0 200 " + word, 1, 3)
        self.refused("num 0 200 pow -9", 1, 2)
        self.refused("num 0 200 pow 9", 3, 2)
        self.refused("num 2 200 root", 2, 2)

    def test_skip_behind_the_end(self):
        self.refused("skip 1 true", 7, 2)
        self.refused("skip 999", 7, 2)
        self.refused("true unless 5", 7, 3)
        self.refused("false unless 5", 7, 3)
        self.refused("nil part 5", 7, 3)


if __name__ == "__main__":
    unittest.main()
