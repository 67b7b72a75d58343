"""Promise 5: begin."""

import unittest

from tests.calling import ask, begin, load, step


class BeginTest(unittest.TestCase):
    def begun(self, inputs, count):
        """The text is one of count inputs."""
        code = "block " + str(count) + " 0 true ret"
        self.assertEqual(ask(load(1, code), begin(0, inputs)), [[0], [0]], inputs)
        other = "block " + str(count + 1) + " 0 true ret"
        self.assertEqual(ask(load(1, other), begin(0, inputs)), [[0], [-8]], inputs)

    def no_inputs_text(self, inputs):
        for count in (0, 1, 2):
            code = "block " + str(count) + " 0 true ret"
            self.assertEqual(ask(load(1, code), begin(0, inputs)), [[0], [-7]], inputs)


class RefusalTest(BeginTest):
    def test_no_code(self):
        self.assertEqual(ask(begin(0, "")), [[-4]])
        self.assertEqual(ask(begin(-1, "what")), [[-4]])

    def test_budget(self):
        for budget, answer in ((-10 ** 18, [-1]), (-1, [-1]), (0, [0]), (1000, [0]), (1001, [-1]), (10 ** 18, [-1])):
            self.assertEqual(ask(load(1, "block 0 0 true ret"), begin(budget, "")), [[0], answer])

    def test_order(self):
        self.assertEqual(ask(load(1, "block 0 0 true ret"), begin(1001, "what"), begin(-1, "1"), begin(1000, "1, what"),
                             begin(1000, "1")), [[0], [-1], [-1], [-7], [-8]])

    def test_too_few_or_too_many(self):
        answers = ask(load(0, "block 2 0"), begin(0, ""), begin(0, "1"), begin(0, "1, 2"), begin(0, "1, 2, 3"))
        self.assertEqual(answers, [[0], [-8], [-8], [0], [-8]])

    def test_after_a_refusal_the_run_goes_on(self):
        for refused in (begin(-1, "1"), begin(0, "what"), begin(0, "1, 2")):
            answers = ask(load(1, "block 1 0 true bind get 1 ret"), begin(0, "1"), step(3), refused, step(3))
            self.assertEqual(answers[2:], [[0, 3], answers[3], [1, 1]])
            self.assertLess(answers[3][0], 0)

    def test_a_refused_begin_begins_no_run(self):
        self.assertEqual(ask(load(1, "block 1 0 true ret"), begin(0, ""), step(1)), [[0], [-8], [-3]])

    def test_a_run_before_it_is_gone(self):
        answers = ask(load(1, "block 1 0 get 0 root ret"), begin(0, "4"), step(2), begin(0, "-1"), step(3),
                      begin(0, "9"), step(5))
        self.assertEqual(answers[2:], [[0, 2], [0], [2, 2, 2], [0], [1, 3]])

    def test_budget_is_new(self):
        code = "block 0 0 fn 1 nil call 1 ret block 0 0 true ret"
        answers = ask(load(1, code), begin(1, ""), step(9), begin(0, ""), step(9), begin(1, ""), step(9))
        self.assertEqual(answers[2:], [[1, 6], [0], [2, 3, 4], [0], [1, 6]])


class InputsTextTest(BeginTest):
    def test_nothing_and_blanks(self):
        self.begun("", 0)
        self.begun("   ", 0)
        self.begun(" " * 4000, 0)

    def test_length(self):
        self.begun("1".rjust(4000), 1)
        self.no_inputs_text("1".rjust(4001))
        self.no_inputs_text(" " * 4001)
        self.no_inputs_text(" " * 10000)
        sixty = ",".join(["1"] * 60)
        many = ",".join(["1"] * 2000)
        self.assertEqual(ask(load(1, "block 60 0 true ret"), begin(0, sixty), begin(0, many)), [[0], [0], [-8]])

    def test_values(self):
        for value in ("1", "-1/2", "0", "-0", "007/014", "true", "false", "[]", "[ ]", "[1]", "[1,2]", "[ 1 , [ ] ]",
                      "(1,2)", "( true , (false,[]) )", "[(1, 2), (3, [4])]", "9" * 100 + "/" + "9" * 100):
            self.begun(value, 1)
            self.begun("  " + value + "  ", 1)
            self.begun(value + "," + value, 2)
            self.begun(" " + value + " , " + value + " ", 2)

    def test_commas(self):
        for inputs in (",", "1,", ",1", "1,,2", "1 2", "true false", "[1][2]", "[1]2", "1[2]", "true[]", "[,]", "[1,]",
                       "[,1]", "[1 2]", "[1,,2]", "(1,2,)", "(,1,2)", "(1 2)", "1, 2,", "[] []", "(1,2)(3,4)", " , "):
            self.no_inputs_text(inputs)

    def test_pairs(self):
        for inputs in ("()", "( )", "(1)", "(1,)", "(1,2,3)", "(,)", "([])"):
            self.no_inputs_text(inputs)

    def test_brackets(self):
        for inputs in ("[", "]", "(", ")", "[1", "1]", "(1,2", "1,2)", "[1)", "(1,2]", "[(1,2])", "[[]", "[]]", "][",
                       "[1,2", "[(1,2)", "1, [", "{1}"):
            self.no_inputs_text(inputs)

    def test_how_many_are_open(self):
        self.begun("[" * 40 + "]" * 40, 1)
        self.no_inputs_text("[" * 41 + "]" * 41)
        self.begun("(1," * 40 + "2" + ")" * 40, 1)
        self.no_inputs_text("(1," * 41 + "2" + ")" * 41)
        self.begun("[(1," * 20 + "2" + ")]" * 20, 1)
        self.no_inputs_text("[" + "[(1," * 20 + "2" + ")]" * 20 + "]")
        self.begun("[" * 40 + "]" * 40 + "," + "[" * 40 + "]" * 40, 2)
        self.begun("[" * 39 + ",".join(["[]"] * 50) + "]" * 39, 1)
        self.no_inputs_text("[" * 4000)
        self.no_inputs_text("[" * 2000 + "]" * 2000)

    def test_blanks_within(self):
        for inputs in ("1 /2", "1/ 2", "- 1", "1 0", "tr ue", "fals e", "1 / 2", "-1 /2"):
            self.no_inputs_text(inputs)
            self.no_inputs_text("[" + inputs + "]")

    def test_other_words(self):
        for inputs in ("fn", "True", "truefalse", "true1", "1true", "x", "nil", "--1", "+1", "1/0", "1/000", "1/-2",
                       "1/2/3", "/2", "1/", "-", "1.5", "9" * 101, "1/" + "9" * 101, "1;2", "|", "true-", "?"):
            self.no_inputs_text(inputs)
            self.no_inputs_text("(1," + inputs + ")")

    def test_bytes(self):
        for byte in range(256):
            if chr(byte) not in "0123456789 ":
                self.no_inputs_text([49, byte])
                self.no_inputs_text([byte, 44])
            if not 48 <= byte <= 57 and chr(byte) not in ",/":
                self.no_inputs_text([49, byte, 50])


if __name__ == "__main__":
    unittest.main()
