"""Promise 3: show."""

import unittest

from tests.calling import ask, load, show, text


class ShowTest(unittest.TestCase):
    def shown(self, code, wanted):
        loaded, answer = ask(load(0, code), show())
        self.assertEqual(loaded, [0])
        self.assertEqual(text(answer), wanted)

    def test_no_code(self):
        self.assertEqual(ask(show()), [[-4]])
        self.assertEqual(ask(load(0, "wrong"), load(1, "block 0 0"), show()), [[1, 0], [2, 0, 0, 9], [-4]])

    def test_every_instruction(self):
        code = ("block 2 0 num 1/2 7 get 0 free 10 fn 1 call 2 fold 3 skip 4 unless 5 part 6 pow 7 pow -8 "
                "true false nil bind ret pair fst snd cons add sub mul div root floor rest less same "
                "block 60 1 get 999 block 0 0")
        self.shown(code, code)

    def test_blanks(self):
        self.shown("  block  0 0   nil    ret  ", "block 0 0 nil ret")

    def test_needless_zeros(self):
        self.shown("block 007 000 get 010 num 001 020 num 000 200 block 00 001 pow -3 fold 000",
                   "block 7 0 get 10 num 1 20 num 0 200 block 0 1 pow -3 fold 0")

    def test_minus_zero(self):
        self.shown("block 0 0 num -0 1 num -000/5 1 pow -0", "block 0 0 num 0 1 num 0 1 pow 0")

    def test_lowest_terms(self):
        for fraction, wanted in (("4/6", "2/3"), ("-4/6", "-2/3"), ("6/3", "2"), ("-6/3", "-2"), ("0/7", "0"),
                                 ("7/1", "7"), ("-1/007", "-1/7"), ("12/18", "2/3"), ("5/5", "1"),
                                 ("1/1", "1"), ("-10/4", "-5/2")):
            self.shown("block 0 0 num " + fraction + " 3", "block 0 0 num " + wanted + " 3")

    def test_long_fractions(self):
        nines = "9" * 100
        self.shown("block 0 0 num " + nines + "/" + nines + " 1", "block 0 0 num 1 1")
        self.shown("block 0 0 num -" + nines + "/" + "3" * 100 + " 1", "block 0 0 num -3 1")
        other = "1" + "0" * 99
        self.shown("block 0 0 num " + nines + "/" + other + " 1", "block 0 0 num " + nines + "/" + other + " 1")

    def test_loaded_as_checked(self):
        self.assertEqual(text(ask(load(1, " block 00 0 true ret"), show())[1]), "block 0 0 true ret")

    def test_what_is_shown_is_shown_the_same_again(self):
        code = "block 01 0  num -6/4 010 pow -0 get 000 ret block 3 01"
        shown = text(ask(load(0, code), show())[1])
        self.shown(shown, shown)


if __name__ == "__main__":
    unittest.main()
