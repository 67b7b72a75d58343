"""The program held against the model, over texts and code that are made up from fixed seeds."""

import random
import unittest

from fractioncode.exact import fraction_text
from fractioncode.inputs import read_inputs
from fractioncode.reading import read_code
from fractioncode.running import Run, do_steps
from tests import calling, model
from tests.calling import ask, begin, check, heights, load, show, step

WORDS = model.PLAIN + model.SMALL + ["num", "pow"]
FRACTIONS = ("0", "1", "2", "-1", "4", "1/4", "-2/3", "6/4", "9", "100", "-0", "1/7")
# What an instruction needs at the row's end, so that code that is made up often gets far; . is any sort.
NEEDS = {"unless": "t", "part": "l", "fst": "p", "snd": "p", "cons": ".l", "pow": "n", "root": "n", "call": "f.",
         "fold": "f.l", "bind": ".", "pair": "..", "ret": ".", "less": "nn", "same": "nn"}
GIVEN = {"num": "n", "true": "t", "false": "t", "nil": "l", "fn": "f", "pair": "p", "cons": "l", "pow": "n",
         "root": "n", "less": "t", "same": "t"}
for arithmetic in model.ARITHMETIC:
    NEEDS[arithmetic] = "nn"
    GIVEN[arithmetic] = "n"


def fits(row, word):
    needed = NEEDS.get(word, "")
    end = row[len(row) - len(needed):]
    return len(row) >= len(needed) and all(need in (".", sort) or sort == "?" for need, sort in zip(needed, end))


def what_belongs(chance, word, blocks, height, count):
    """What belongs to a word, in a block of code with these blocks, where the row and the locals are so many."""
    if word == "num":
        return " " + chance.choice(FRACTIONS) + " " + chance.choice(("1", "2", "5", "60", "150"))
    if word == "pow":
        return " " + chance.choice(("0", "1", "2", "3", "-1", "-2", "9", "-0"))
    if word in ("call", "fold"):
        return " " + chance.choice(("0", "1", "2", "10", "1", "70", "161"))
    if word == "fn":
        likely = [number for number, block in enumerate(blocks) if number > 0 and block[0] <= height]
        return " " + str(chance.choice(likely if likely and chance.random() < 0.97 else range(len(blocks) + 1)))
    if word == "get":
        return " " + str(chance.randrange(count + (chance.random() < 0.05)) if count > 0 else 0)
    return " " + str(chance.choice((0, 0, 0, 0, 1))) if word in model.SMALL else ""


def made_block(chance, number, blocks):
    """A block whose instructions mostly find what they take."""
    made_with, itself = blocks[number]
    words = ["block " + str(made_with) + " " + str(itself)]
    row = ""
    own = "?" * made_with + ("f" * itself + "?" if number > 0 else "")
    for _ in range(chance.randrange(40)):
        likely = [word for word in WORDS if fits(row, word) and word not in ("ret", "free", "skip")]
        likely = likely + [word for word in likely if word in NEEDS or own and word == "get"] * 3
        likely = likely + ["call"] * 9 * fits(row, "call") + ["fold"] * 30 * fits(row, "fold")
        likely = likely + ["fn"] * 5 if len(blocks) > 1 else [word for word in likely if word != "fn"]
        word = chance.choice(likely if chance.random() < 0.98 else WORDS)
        belongs = what_belongs(chance, word, blocks, len(row), len(own))
        words.append(word + belongs)
        taken = len(NEEDS.get(word, ""))
        if word == "fn" and int(belongs) < len(blocks):
            taken = blocks[int(belongs)][0]
        if word == "bind":
            own += row[-1:]
        if word == "part":
            own += "?l"
        row = row[:max(0, len(row) - taken)]
        if word == "get":
            row += own[int(belongs):int(belongs) + 1]
        elif word in GIVEN or word in ("fst", "snd", "call", "fold"):
            row += GIVEN.get(word, "?")
    ending = ["true"] if row == "" else ["bind"] * (len(row) - 1)
    return " ".join(words + ending + (["ret"] if chance.random() < 0.97 else []))


def made_code(chance):
    blocks = [(chance.randrange(3), 0)]
    for _ in range(chance.randrange(4)):
        blocks.append((chance.randrange(3), chance.randrange(2)))
    return " ".join([made_block(chance, number, blocks) for number in range(len(blocks))]), blocks[0][0]


def made_value(chance, depth):
    sort = chance.randrange(6 if depth < 3 else 3)
    if sort == 0:
        return chance.choice(("true", "false"))
    if sort < 3:
        return chance.choice(FRACTIONS)
    if sort == 3:
        return "(" + made_value(chance, depth + 1) + ", " + made_value(chance, depth + 1) + ")"
    return "[" + ", ".join([made_value(chance, depth + 1) for _ in range(chance.randrange(4))]) + "]"


def harmed(chance, text, signs):
    """The text with a few signs taken out, put in or changed."""
    for _ in range(chance.randrange(3)):
        at = chance.randrange(len(text) + 1)
        text = text[:at] + chance.choice(signs) + text[at + chance.randrange(3):]
    return text


def shown(value):
    """A value of the program, written like the model's."""
    if value.kind == "number":
        return fraction_text(value) + ":" + str(value.weight)
    if value.kind == "truth":
        return "true" if value.holds else "false"
    if value.kind == "function":
        return "fn" + str(value.block) + "{" + ", ".join([shown(one) for one in value.kept]) + "}"
    if value.kind == "pair":
        return "(" + shown(value.first) + ", " + shown(value.second) + ")"
    values = []
    size = value.size
    while value.size > 0:
        values.append(shown(value.first))
        value = value.others
    assert size == len(values)
    return "[" + ", ".join(values) + "]"


def row_shown(values):
    return "[" + ", ".join([shown(value) for value in values]) + "]"


def told(run):
    """All there is of a run's frames, written like the model's."""
    lines = []
    frame = run.topmost
    while frame is not None:
        if frame.folds:
            words = ["fold", shown(frame.f), shown(frame.coming), str(frame.hand), row_shown(frame.held),
                     str(frame.level), str(frame.depth)]
        else:
            words = ["block", str(frame.block), str(frame.at), row_shown(frame.row), row_shown(frame.places),
                     str(frame.depth)]
        lines.append(" ".join(words))
        frame = frame.below
    outcome = [run.outcome, run.refusal] if run.outcome == 2 else [run.outcome]
    ended = [] if run.result is None else [shown(run.result)]
    return [str(run.left), str(outcome)] + list(reversed(lines)) + ended


def made_line(chance, codes, inputs):
    """Calls with what they are given, as names and values; most are about a run."""
    names = ("step", "step", "step", "go", "back", "back", "answer", "answer", "frames", "look", "look", "count")
    line = [("load", 0, codes[0]), ("begin", chance.choice((1, 5, 60)), inputs[0])]
    for _ in range(25):
        name = chance.choice(names)
        which = chance.randrange(2)
        if chance.random() < 0.1:
            line.append(("begin", chance.choice((0, 1, 5, 60)), inputs[which]))
        elif chance.random() < 0.04:
            line.append(("load", chance.randrange(2), codes[which]))
        elif name in ("step", "back"):
            line.append((name, chance.choice((-1, 0, 1, 1, 2, 5, 10, 30, 70, 200))))
        elif name == "look":
            line.append((name, chance.choice((-1, 0, 0, 0, 1, 1, 2, 3, 4))))
        else:
            line.append((name,))
    return line


def told_by_program(line):
    calls = [getattr(calling, "run" if name == "go" else name)(*given) for name, *given in line]
    return ask(*calls)


def told_by_model(line):
    thing = model.Object()
    return [getattr(thing, name)(*given) for name, *given in line]


class ModelTest(unittest.TestCase):
    def test_calls(self):
        outcomes = {}
        for seed in range(1500):
            chance = random.Random(seed)
            code, count = made_code(chance)
            code = harmed(chance, code, "0123456789  -/abctrueni") if chance.random() < 0.3 else code
            inputs = ", ".join([made_value(chance, 0) for _ in range(count)])
            inputs = harmed(chance, inputs, "[](),, 1/-t") if chance.random() < 0.3 else inputs
            checked = chance.choice((0, 0, 1))
            budget = chance.choice((0, 1, 5, 60))
            steps = (chance.randrange(10), chance.randrange(60), 3000, 1)
            answers = ask(check(code), load(checked, code), show(), heights(0), heights(1), begin(budget, inputs),
                          *[step(n) for n in steps])
            thing = model.Object()
            wanted = [thing.check(code), thing.load(checked, code), thing.show(), thing.heights(0), thing.heights(1),
                      thing.begin(budget, inputs)] + [thing.step(n) for n in steps]
            self.assertEqual(answers, wanted, (seed, code, inputs))
            for answer in (answers[0][0:1] + answers[0][3:], ["begin"] + answers[5], ["step"] + answers[-1]):
                outcomes[tuple(answer)] = outcomes.get(tuple(answer), 0) + 1
        self.assertGreater(len(outcomes), 17, outcomes)

    def stepped(self, code, inputs, budget, most):
        """How a run stands in the end; on the way all is the same as in the model's."""
        own = Run(read_code(code), budget, read_inputs(inputs))
        other = model.Run(model.read(code)[1], budget, model.inputs_text(inputs))
        for done in range(most):
            self.assertEqual(told(own), other.told(), (code, inputs, done))
            if other.outcome != [0]:
                break
            other.step()
            self.assertEqual(do_steps(own, 1), 1)
        return tuple(other.outcome)

    def test_frames_after_each_step(self):
        outcomes = {}
        for seed in range(1500):
            chance = random.Random(seed)
            code, count = made_code(chance)
            inputs = ", ".join([made_value(chance, 0) for _ in range(count)])
            outcome = self.stepped(code, inputs, chance.choice((0, 1, 5, 60)), 200)
            outcomes[outcome] = outcomes.get(outcome, 0) + 1
        self.assertEqual(len([outcome for outcome in outcomes if outcome[0] == 2]), 7, outcomes)
        self.assertGreater(outcomes[(1,)], 100, outcomes)

    def test_frames_of_folds(self):
        outer = "block 1 0 true fn 1 num 0 1 get 0 fold {0} pair ret block 0 0 get 0 fn 2 ret block 1 0 "
        adding = "get 0 get 1 add ret"
        folding = "fn 3 get 0 get 1 fold {0} ret block 0 0 get 0 fn 4 ret block 1 0 get 0 get 1 sub ret"
        for inner, inputs in ((adding, "[]"), (adding, "[1, 1/2, -3]"), (adding, "[1, true]"), (adding, "3"),
                              (folding, "[[1, 2], [], [3, 4, 5]]"), (folding, "[[1], 2]"), (folding, "[[1, []]]")):
            for level in ("0", "1", "80", "81", "160", "161"):
                for budget in (0, 1, 2, 3, 4, 100):
                    code = (outer + inner).replace("{0}", level)
                    self.assertNotEqual(self.stepped(code, inputs, budget, 1000), (0,))

    def test_lines(self):
        outcomes = {}
        for seed in range(2500):
            chance = random.Random(seed)
            made = [made_code(chance) for _ in range(2)]
            inputs = [", ".join([made_value(chance, 0) for _ in range(count)]) for code, count in made]
            line = made_line(chance, [code for code, count in made], inputs)
            rows = told_by_program(line)
            self.assertEqual(rows, told_by_model(line), (seed, line))
            for call, row in zip(line, rows):
                outcomes[(call[0], min(row[0], 1))] = outcomes.get((call[0], min(row[0], 1)), 0) + 1
        for wanted in (("go", 1), ("go", -3), ("back", 0), ("back", 1), ("back", -1), ("back", -3), ("back", -5),
                       ("answer", 0), ("answer", -3), ("answer", -9), ("frames", 0), ("frames", 1), ("look", 0),
                       ("look", -2), ("count", 0), ("count", 1)):
            self.assertGreater(outcomes[wanted], 20, outcomes)

    def test_inputs_texts(self):
        for seed in range(4000):
            chance = random.Random(seed)
            inputs = harmed(chance, ",".join([made_value(chance, 0) for _ in range(2)]), "[](),, 1/-t")
            thing = model.Object()
            thing.load(0, "block 2 0")
            self.assertEqual(ask(load(0, "block 2 0"), begin(0, inputs))[1], thing.begin(0, inputs), (seed, inputs))


if __name__ == "__main__":
    unittest.main()
