"""Code: its blocks, their instructions, and what each instruction takes and gives."""

# The sorts of the values that an instruction takes, the last one last ("value" is any sort).
# fn is not told here: how many it takes is told by the block it names.
TAKES = {
    "num": (),
    "true": (),
    "false": (),
    "nil": (),
    "get": (),
    "bind": ("value",),
    "free": (),
    "skip": (),
    "unless": ("truth",),
    "part": ("list",),
    "pair": ("value", "value"),
    "fst": ("pair",),
    "snd": ("pair",),
    "cons": ("value", "list"),
    "add": ("number", "number"),
    "sub": ("number", "number"),
    "mul": ("number", "number"),
    "div": ("number", "number"),
    "floor": ("number", "number"),
    "rest": ("number", "number"),
    "pow": ("number",),
    "root": ("number",),
    "less": ("number", "number"),
    "same": ("number", "number"),
    "call": ("function", "value"),
    "fold": ("value", "value", "list"),
    "ret": ("value",),
}
WITH_SMALL_NUMBER = ("get", "free", "fn", "call", "fold", "skip", "unless", "part")
GIVING_NOTHING = ("bind", "free", "skip", "unless", "part", "ret")


class Instruction:
    """An instruction: its word; its small number or power (0 if it has none); num's number (else None)."""

    def __init__(self, word, number, value):
        self.word = word
        self.number = number
        self.value = value


class Block:
    """A block: K as made_with, S as itself, and the list of its instructions."""

    def __init__(self, made_with, itself, instructions):
        self.made_with = made_with
        self.itself = itself
        self.instructions = instructions


def is_word(text):
    """Whether text is an instruction's word."""
    return text == "fn" or text in TAKES


def taken_sorts(instruction, blocks):
    """The sorts of what an instruction takes; a block that it names is there."""
    if instruction.word == "fn":
        return ("value",) * blocks[instruction.number].made_with
    return TAKES[instruction.word]


def given_count(instruction):
    """How many values an instruction gives."""
    return 0 if instruction.word in GIVING_NOTHING else 1
