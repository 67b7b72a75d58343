"""Code texts: read as blocks, or wrong at a place."""

from fractioncode.blocks import Block, Instruction, WITH_SMALL_NUMBER, is_word
from fractioncode.exact import MOST_WEIGHT, read_fraction

MOST_BYTES = 6000
MOST_BLOCKS = 60
MOST_INSTRUCTIONS = 300
MOST_MADE_WITH = 60
MOST_SMALL = 999


class WrongAt(Exception):
    """A code text is wrong at a place."""

    def __init__(self, place):
        Exception.__init__(self)
        self.place = place


def token_places(text):
    """The places where the text's tokens begin."""
    places = []
    before = " "
    for place, sign in enumerate(text):
        if sign != " " and before == " ":
            places.append(place)
        before = sign
    return places


class Tokens:
    """The tokens of a text, gone through from left to right."""

    def __init__(self, text):
        self.words = [word for word in text.split(" ") if word != ""]
        self.places = token_places(text)
        self.length = len(text)
        self.at = 0

    def are_over(self):
        """Whether no token is left."""
        return self.at == len(self.words)

    def here(self):
        """The token that stands here; the text ends too early if there's none."""
        if self.are_over():
            raise WrongAt(self.length)
        return self.words[self.at]

    def go_on(self, fits):
        """Go behind the token that stands here, if it fits here."""
        if not fits:
            raise WrongAt(self.places[self.at])
        self.at += 1


def read_small(tokens, least, most):
    """A small number from least to most."""
    word = tokens.here()
    tokens.go_on(word.isdigit() and len(word) <= 3 and least <= int(word) <= most)
    return int(word)


def read_power(tokens):
    """A power: at most one - and one digit."""
    word = tokens.here()
    digit = word[1:] if word.startswith("-") else word
    tokens.go_on(digit.isdigit() and len(digit) == 1)
    return int(word)


def read_num(tokens):
    """A num's number: a fraction text and a weight."""
    word = tokens.here()
    tokens.go_on(read_fraction(word, 1) is not None)
    return read_fraction(word, read_small(tokens, 1, MOST_WEIGHT))


def read_instruction(tokens):
    """An instruction and what belongs to it."""
    word = tokens.here()
    tokens.go_on(is_word(word))
    if word == "num":
        return Instruction(word, 0, read_num(tokens))
    if word == "pow":
        return Instruction(word, read_power(tokens), None)
    if word in WITH_SMALL_NUMBER:
        return Instruction(word, read_small(tokens, 0, MOST_SMALL), None)
    return Instruction(word, 0, None)


def read_block(tokens, number):
    """The block that has this number."""
    tokens.go_on(tokens.here() == "block" and number < MOST_BLOCKS)
    made_with = read_small(tokens, 0, MOST_MADE_WITH)
    itself = read_small(tokens, 0, 0 if number == 0 else 1)
    instructions = []
    while not tokens.are_over() and tokens.here() != "block":
        if len(instructions) == MOST_INSTRUCTIONS:
            tokens.go_on(False)
        instructions.append(read_instruction(tokens))
    return Block(made_with, itself, instructions)


def read_code(text):
    """The list of the blocks of a code text."""
    if len(text) > MOST_BYTES:
        raise WrongAt(len(text))
    tokens = Tokens(text)
    blocks = [read_block(tokens, 0)]
    while not tokens.are_over():
        blocks.append(read_block(tokens, len(blocks)))
    return blocks
