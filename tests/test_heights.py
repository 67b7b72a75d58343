"""Promise 4: heights."""

import unittest

from tests.calling import ask, heights, load


class HeightsTest(unittest.TestCase):
    def told(self, code, block, *pairs):
        """The heights and numbers of locals that are told of a block."""
        numbers = [number for pair in pairs for number in pair]
        self.assertEqual(ask(load(1, code), heights(block)), [[0], [0] + numbers])

    def test_no_code(self):
        for block in (-1, 0, 1):
            self.assertEqual(ask(heights(block)), [[-4]])

    def test_code_that_was_not_loaded_as_checked(self):
        for block in (-1, 0, 1):
            self.assertEqual(ask(load(0, "block 0 0 true ret"), heights(block)), [[0], [-4]])

    def test_no_such_block(self):
        for block in (-10 ** 18, -1, 2, 60, 10 ** 18):
            self.assertEqual(ask(load(1, "block 0 0 true ret block 0 0 nil ret"), heights(block)), [[0], [-2]])

    def test_locals_at_the_beginning(self):
        code = "block 3 0 true ret block 3 0 true ret block 3 1 true ret block 0 0 true ret"
        self.told(code, 0, (0, 3), (1, 3))
        self.told(code, 1, (0, 4), (1, 4))
        self.told(code, 2, (0, 5), (1, 5))
        self.told(code, 3, (0, 1), (1, 1))

    def test_bind_and_free(self):
        self.told("block 0 0 true bind nil bind free 1 get 0 free 1 ret", 0,
                  (0, 0), (1, 0), (0, 1), (1, 1), (0, 2), (0, 1), (1, 1), (1, 0))

    def test_part_and_skip(self):
        self.told("block 1 0 get 0 part 3 get 1 free 2 skip 1 true ret", 0,
                  (0, 1), (1, 1), (0, 3), (1, 3), (1, 1), (0, 1), (1, 1))

    def test_unless(self):
        self.told("block 1 0 get 0 unless 2 nil skip 1 true ret", 0,
                  (0, 1), (1, 1), (0, 1), (1, 1), (0, 1), (1, 1))

    def test_skip_of_none(self):
        self.told("block 0 0 skip 0 true skip 0 ret", 0, (0, 0), (0, 0), (1, 0), (1, 0))

    def test_what_is_taken_and_given(self):
        self.told("block 0 0 true true fn 1 num 1 1 call 0 ret block 2 0 get 2 get 1 pair get 0 fst cons ret", 0,
                  (0, 0), (1, 0), (2, 0), (1, 0), (2, 0), (1, 0))
        self.told("block 0 0 true true fn 1 num 1 1 call 0 ret block 2 0 get 2 get 1 pair get 0 fst cons ret", 1,
                  (0, 3), (1, 3), (2, 3), (1, 3), (2, 3), (2, 3), (1, 3))
        self.told("block 0 0 nil nil nil fold 0 root pow 2 nil less ret", 0,
                  (0, 0), (1, 0), (2, 0), (3, 0), (1, 0), (1, 0), (1, 0), (2, 0), (1, 0))


if __name__ == "__main__":
    unittest.main()
