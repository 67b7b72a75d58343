"""Promises 1 and 2: load and check."""

import unittest

from tests.calling import ask, begin, check, heights, load, show, step, text

RIGHT = "block 1 0 get 0 fn 1 num 5 1 call 1 ret block 1 0 get 0 get 1 mul ret"


class LoadTest(unittest.TestCase):
    def wrong(self, code, place):
        """The code is wrong at the place, however it's loaded."""
        self.assertEqual(ask(load(0, code), load(1, code), check(code)), [[1, place]] * 3, code)

    def fine(self, code):
        """The code text isn't wrong."""
        self.assertEqual(ask(load(0, code)), [[0]], code)

    def fault(self, code, block, instruction, number):
        """The code text isn't wrong, but the code has this fault."""
        told = [2, block, instruction, number]
        self.assertEqual(ask(load(0, code), load(1, code), check(code)), [[0], told, told], code)

    def right(self, code):
        self.assertEqual(ask(load(0, code), load(1, code), check(code)), [[0]] * 3, code)


class CodeTextTest(LoadTest):
    def test_checked_other_than_0_or_1(self):
        for checked in (-10 ** 18, -1, 2, 10 ** 18):
            self.assertEqual(ask(load(checked, RIGHT), show()), [[-1], [-4]])
            self.assertEqual(ask(load(checked, "wrong")), [[-1]])

    def test_examples(self):
        self.right(RIGHT)
        self.wrong("block 0 1 ret", 8)
        self.wrong("block 0 0 get", 13)
        self.wrong("block 0 0 bind 3", 15)
        self.wrong("", 0)
        self.fault("block 0 0 get 0 ret", 0, 0, 3)
        self.fault("block 0 0 true", 0, 1, 9)
        self.fault("block 0 0 true true ret", 0, 2, 8)
        self.fault("block 0 0 true unless 1 nil true ret", 0, 3, 6)

    def test_texts_that_end_too_early(self):
        self.wrong("   ", 3)
        for code in ("block", "block 0", "block 0 0 num", "block 0 0 num 1/2", "block 0 0 pow",
                     "block 0 0 ret block", "block 0 0 ret block 1"):
            self.wrong(code, len(code))
            self.wrong(code + "  ", len(code) + 2)

    def test_length(self):
        self.fine("block 0 0".ljust(6000))
        self.wrong("block 0 0".ljust(6001), 6001)
        self.wrong("x" * 6000, 0)
        self.wrong("x" * 6001, 6001)
        self.wrong("x" * 10000, 10000)

    def test_first_token(self):
        self.wrong("ret", 0)
        self.wrong("  blocks 0 0", 2)
        self.wrong("Block 0 0", 0)
        self.wrong("block0 0", 0)

    def test_only_the_blank_parts_tokens(self):
        self.wrong("block 0 0\tret", 8)
        self.wrong("block 0 0\nret", 8)
        self.wrong("block\x000 0", 0)
        for byte in range(256):
            if byte != 32:
                self.wrong(list(b"block 0 0 nil") + [byte] + list(b"ret"), 10)
                self.wrong(list(b"block 0 0 nil ret ") + [byte], 18)
                if not 48 <= byte <= 57:
                    self.wrong(list(b"block 0 ") + [byte], 8)
                    self.wrong(list(b"block 0 0 num 1") + [byte] + list(b" 1"), 14)

    def test_blanks_mean_nothing_else(self):
        self.right("   block  0 0   true    ret ")

    def test_digits_of_other_writings_are_no_digits(self):
        self.wrong([98, 108, 111, 99, 107, 32, 178, 32, 48], 6)

    def test_words(self):
        for word in "true false nil bind ret pair fst snd cons add sub mul div root floor rest less same".split():
            self.fine("block 0 0 " + word)
            self.wrong("block 0 0 " + word + " 1", 11 + len(word))
            self.wrong("block 0 0 " + word + "x", 10)
            self.wrong("block 0 0 " + word.upper(), 10)
        for word in ("get", "free", "fn", "call", "fold", "skip", "unless", "part"):
            self.fine("block 0 0 " + word + " 0")
            self.fine("block 0 0 " + word + " 999")
            self.fine("block 0 0 " + word + " 007")
            for number in ("1000", "0000", "-1", "x", "1/2", "ret", "block"):
                self.wrong("block 0 0 " + word + " " + number, 11 + len(word))
            self.wrong("block 0 0 " + word + " 1 1", 13 + len(word))
        for word in ("num", "pow"):
            self.wrong("block 0 0 " + word + " ret", 14)
        for word in ("number", "value", "list", "0", "1", "-", "?", "blocks"):
            self.wrong("block 0 0 " + word, 10)


class NumbersTest(LoadTest):
    def test_fraction_texts(self):
        for fraction in ("0", "-0", "007", "-1/2", "4/6", "0/1", "1/0001", "9" * 100, "-" + "9" * 100,
                         "9" * 100 + "/" + "9" * 100, "1/" + "0" * 99 + "1"):
            self.fine("block 0 0 num " + fraction + " 1")
        for fraction in ("-", "/", "1/", "/1", "--1", "+1", "1-", "1/-2", "-/2", "1/2/3", "1//2", "1.5", "1/0",
                         "1/" + "0" * 100, "9" * 101, "-" + "9" * 101, "1/" + "0" * 100 + "1", "x", "1x", "ret"):
            self.wrong("block 0 0 num " + fraction + " 1", 14)

    def test_weights(self):
        for weight in ("1", "200", "001", "01"):
            self.fine("block 0 0 num 1 " + weight)
        for weight in ("0", "000", "201", "999", "0001", "-1", "1/1", "ret"):
            self.wrong("block 0 0 num 1 " + weight, 16)

    def test_powers(self):
        for power in ("0", "9", "-0", "-9"):
            self.fine("block 0 0 pow " + power)
        for power in ("10", "00", "-10", "--1", "-", "+1", "1/1", "1-"):
            self.wrong("block 0 0 pow " + power, 14)

    def test_made_with(self):
        for number in ("0", "60", "060", "00"):
            self.fine("block " + number + " 0")
        for number in ("61", "999", "0000", "0060", "-0", "x", "block"):
            self.wrong("block " + number + " 0", 6)

    def test_itself(self):
        for number in ("0", "000"):
            self.fine("block 0 " + number)
        for number in ("1", "001", "2", "0000", "-0"):
            self.wrong("block 0 " + number, 8)
        for number in ("0", "1", "001"):
            self.fine("block 0 0 block 0 " + number)
        for number in ("2", "0001", "-1"):
            self.wrong("block 0 0 block 0 " + number, 18)

    def test_how_many_blocks(self):
        self.fine("block 0 0 " * 60)
        self.wrong("block 0 0 " * 61, 600)
        self.wrong("block 0 0 " * 60 + "block", 600)
        self.wrong("block 0 0 " * 60 + "block x", 600)

    def test_how_many_instructions(self):
        self.fine("block 0 0 " + "nil " * 300)
        self.fine("block 0 0 " + "nil " * 300 + "block 0 0 " + "nil " * 300)
        self.wrong("block 0 0 " + "nil " * 301, 1210)
        self.wrong("block 0 0 " + "nil " * 300 + "get", 1210)
        self.wrong("block 0 0 block 0 0 " + "nil " * 301, 1220)


class FaultTest(LoadTest):
    def test_2_blocks_that_are_named(self):
        self.fault("block 0 0 fn 1 ret", 0, 0, 2)
        self.fault("block 0 0 fn 0 ret", 0, 0, 2)
        self.fault("block 0 0 true ret block 0 0 fn 2 ret", 1, 0, 2)
        self.fault("block 0 0 true ret block 0 0 fn 999 ret", 1, 0, 2)
        self.right("block 0 0 fn 1 ret block 0 0 fn 1 ret")

    def test_3_locals(self):
        self.right("block 2 0 get 1 ret")
        self.fault("block 2 0 get 2 ret", 0, 0, 3)
        self.right("block 0 0 true ret block 2 0 get 2 ret")
        self.fault("block 0 0 true ret block 2 0 get 3 ret", 1, 0, 3)
        self.right("block 0 0 true ret block 2 1 get 3 ret")
        self.fault("block 0 0 true ret block 2 1 get 4 ret", 1, 0, 3)
        self.right("block 0 0 true bind get 0 free 1 ret")
        self.fault("block 0 0 true bind free 1 get 0 ret", 0, 3, 3)
        self.right("block 1 0 get 0 part 3 get 2 free 2 ret get 0 ret")
        self.fault("block 1 0 get 0 part 3 get 3 free 2 ret get 0 ret", 0, 2, 3)

    def test_3_free(self):
        self.fault("block 1 0 free 1 true ret", 0, 0, 3)
        self.right("block 1 0 free 0 true ret")
        self.fault("block 1 0 true bind free 2 true ret", 0, 2, 3)
        self.fault("block 0 0 true ret block 0 0 free 1 true ret", 1, 0, 3)
        self.right("block 0 0 true bind true bind free 2 true ret")

    def test_4_too_few_values(self):
        one = ("bind", "unless 0", "part 0", "fst", "snd", "pow 1", "root", "ret")
        two = ("pair", "cons", "add", "sub", "mul", "div", "floor", "rest", "less", "same", "call 1")
        for number, words in ((1, one), (2, two), (3, ("fold 1",))):
            for word in words:
                for height in range(number):
                    self.fault("block 0 0 " + "true " * height + word + " true ret", 0, height, 4)
                enough = "block 0 0 " + "true " * number + word + " true ret"
                self.assertNotEqual(ask(check(enough)), [[2, 0, number, 4]], enough)
        self.fault("block 0 0 true fn 1 ret block 2 0 true ret", 0, 1, 4)
        self.right("block 0 0 true true fn 1 ret block 2 0 true ret")

    def test_how_much_is_given(self):
        for code in ("num 1 1 ret", "true ret", "false ret", "nil ret", "true true pair ret", "true fst ret",
                     "true snd ret", "true nil cons ret", "true pow 2 ret", "true root ret", "true true call 0 ret",
                     "true true true fold 0 ret", "true bind true ret", "true unless 0 true ret",
                     "free 0 true ret", "skip 0 true ret"):
            self.right("block 0 0 " + code)
        for word in ("add", "sub", "mul", "div", "floor", "rest", "less", "same"):
            self.right("block 0 0 true true " + word + " ret")

    def test_sorts_are_not_checked(self):
        self.right("block 0 0 true fst nil add root ret")

    def test_5_instructions_that_are_not_there(self):
        self.right("block 0 0 skip 0 true ret")
        self.fault("block 0 0 true ret skip 1 true ret", 0, 2, 7)
        self.fault("block 0 0 skip 0", 0, 0, 5)
        self.fault("block 0 0 skip 2 true ret", 0, 0, 5)
        self.fault("block 0 0 skip 999 true ret", 0, 0, 5)
        self.fault("block 0 0 true unless 2 true ret", 0, 1, 5)
        self.fault("block 0 0 true unless 0", 0, 1, 5)
        self.fault("block 0 0 nil part 2 true ret", 0, 1, 5)
        self.fault("block 0 0 nil part 0", 0, 1, 5)
        self.right("block 0 0 true unless 2 true ret true ret")

    def test_6_reached_in_two_ways(self):
        self.fault("block 0 0 true unless 2 true bind true ret", 0, 4, 6)
        self.fault("block 0 0 nil part 0 true ret", 0, 2, 6)
        self.fault("block 0 0 nil part 1 true true ret", 0, 3, 6)
        self.right("block 0 0 nil part 1 free 2 true ret")
        self.right("block 0 0 true unless 0 true ret")
        self.right("block 0 0 true unless 2 true skip 1 false ret")
        self.fault("block 0 0 true unless 3 true true skip 1 false ret", 0, 6, 6)
        self.fault("block 0 0 true unless 3 true bind skip 0 true ret", 0, 5, 6)

    def test_7_not_reached(self):
        self.fault("block 0 0 true ret true ret", 0, 2, 7)
        self.fault("block 0 0 skip 1 true true ret", 0, 1, 7)
        self.fault("block 0 0 true ret ret", 0, 2, 7)

    def test_8_ret(self):
        self.fault("block 0 0 true true ret", 0, 2, 8)
        self.fault("block 0 0 true true true ret", 0, 3, 8)
        self.fault("block 0 0 true ret block 0 0 true true ret", 1, 2, 8)

    def test_9_no_end(self):
        self.fault("block 0 0", 0, 0, 9)
        self.fault("block 0 0 true ret block 5 1", 1, 0, 9)
        self.fault("block 0 0 true true", 0, 2, 9)
        self.fault("block 0 0 true bind", 0, 2, 9)
        self.fault("block 0 0 true unless 1 true", 0, 1, 5)

    def test_two_faults_of_one_instruction(self):
        self.fault("block 0 0 skip 1 fn 9 true ret", 0, 1, 7)
        self.fault("block 0 0 skip 1 get 9 true ret", 0, 1, 7)
        self.fault("block 0 0 skip 1 add true ret", 0, 1, 7)
        self.fault("block 0 0 skip 1 skip 9 true ret", 0, 1, 7)
        self.fault("block 0 0 true unless 1 nil fn 9 ret", 0, 3, 6)
        self.fault("block 0 0 true unless 1 nil get 9 ret", 0, 3, 6)
        self.fault("block 0 0 true unless 1 nil add ret", 0, 3, 6)
        self.fault("block 0 0 true unless 1 nil skip 9 ret", 0, 3, 6)
        self.fault("block 0 0 true unless 1 nil ret", 0, 3, 6)
        self.fault("block 1 0 fn 0 ret", 0, 0, 2)
        self.fault("block 0 0 unless 9 true ret", 0, 0, 4)
        self.fault("block 0 0 part 9 true ret", 0, 0, 4)
        self.fault("block 0 0 ret", 0, 0, 4)

    def test_faults_of_two_instructions_or_blocks(self):
        self.fault("block 0 0 get 0 add", 0, 0, 3)
        self.fault("block 0 0 add", 0, 0, 4)
        self.fault("block 0 0 true ret block 0 0 ret block 0 0 fn 7", 1, 0, 4)
        self.fault("block 0 0 block 0 0 ret", 0, 0, 9)
        self.wrong("block 0 0 get 0 ret block 0 2", 28)


class KeptTest(unittest.TestCase):
    def setUp(self):
        self.before = [load(1, RIGHT), begin(3, "1/2"), step(4)]

    def after(self, call):
        """What the call answers behind a run of four steps, and what's there then."""
        return ask(*self.before, call, show(), heights(1), step(100))[3:]

    def test_what_is_not_loaded_changes_nothing(self):
        shown = [0] + list(RIGHT.encode())
        for call, answer in (
            (load(2, "block 0 0 true ret"), [-1]),
            (load(0, "block 0 0 what"), [1, 10]),
            (load(1, "block 0 0 what"), [1, 10]),
            (load(1, "block 0 0 ret"), [2, 0, 0, 4]),
            (check("block 0 0 what"), [1, 10]),
            (check("block 0 0 ret"), [2, 0, 0, 4]),
            (check("block 0 0 true ret"), [0]),
        ):
            self.assertEqual(self.after(call), [answer, shown, [0, 0, 2, 1, 2, 2, 2, 1, 2], [1, 5]])

    def test_no_run_after_a_load(self):
        for checked in (0, 1):
            answers = self.after(load(checked, "block 0 0 true ret block 0 0 nil ret"))
            self.assertEqual(answers[0], [0])
            self.assertEqual(text(answers[1]), "block 0 0 true ret block 0 0 nil ret")
            self.assertEqual(answers[2], [0, 0, 1, 1, 1] if checked == 1 else [-4])
            self.assertEqual(answers[3], [-3])

    def test_check_holds_nothing(self):
        self.assertEqual(ask(check(RIGHT), show(), begin(0, "1")), [[0], [-4], [-4]])

    def test_check_leaves_the_mark(self):
        self.assertEqual(ask(load(0, RIGHT), check(RIGHT), heights(0)), [[0], [0], [-4]])
        self.assertEqual(ask(load(1, "block 0 0 true ret"), load(0, RIGHT), heights(0)), [[0], [0], [-4]])


if __name__ == "__main__":
    unittest.main()
