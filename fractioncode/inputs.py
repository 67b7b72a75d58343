"""Inputs texts: read as values."""

from fractioncode.exact import read_fraction
from fractioncode.sorts import Pair, Truth, chain_of

MOST_BYTES = 4000
MOST_OPEN = 40
MARKS = "[](),"
INPUT_WEIGHT = 1


class NoInputs(Exception):
    """A text is no inputs text."""


def pieces_of(text):
    """The marks of an inputs text and what stands between marks and blanks, from left to right."""
    for mark in MARKS:
        text = text.replace(mark, f" {mark} ")
    return [piece for piece in text.split(" ") if piece != ""]


class Opened:
    """A bracket that's open, or the whole text ("" as its mark), and the values in it so far."""

    def __init__(self, mark):
        self.mark = mark
        self.inside = []


class Inputs:
    """An inputs text while it's read: what's open, innermost last, and whether a value must come next."""

    def __init__(self):
        self.opened = [Opened("")]
        self.wanting = True

    def must(self, right):
        """Go on only if what was read is right."""
        if not right:
            raise NoInputs()

    def innermost(self):
        """What was opened last of what's still open."""
        return self.opened[len(self.opened) - 1]

    def take_bracket(self, mark):
        """A bracket opens."""
        self.must(self.wanting and len(self.opened) <= MOST_OPEN)
        self.opened.append(Opened(mark))

    def take_value(self, value):
        """A value comes to what's open innermost."""
        self.must(self.wanting)
        self.innermost().inside.append(value)
        self.wanting = False

    def take_comma(self):
        """A comma comes behind a value."""
        self.must(not self.wanting)
        self.wanting = True

    def take_end(self, mark):
        """A bracket with this mark ends: what it held, which is right but for how many there are."""
        ended = self.innermost()
        self.must(ended.mark == mark and (not self.wanting or len(ended.inside) == 0))
        self.opened.pop()
        self.wanting = True
        return ended.inside

    def take_list_end(self):
        """A list ends; it's a value of what's open around it."""
        inside = self.take_end("[")
        self.take_value(chain_of(inside))

    def take_pair_end(self):
        """A pair ends; it's a value of what's open around it."""
        inside = self.take_end("(")
        self.must(len(inside) == 2)
        self.take_value(Pair(inside[0], inside[1]))

    def take_word(self, word):
        """A truth or a number comes."""
        if word in ("true", "false"):
            self.take_value(Truth(word == "true"))
        else:
            number = read_fraction(word, INPUT_WEIGHT)
            self.must(number is not None)
            self.take_value(number)

    def take(self, piece):
        """The next piece of the text comes."""
        if piece in ("[", "("):
            self.take_bracket(piece)
        elif piece == "]":
            self.take_list_end()
        elif piece == ")":
            self.take_pair_end()
        elif piece == ",":
            self.take_comma()
        else:
            self.take_word(piece)


def read_inputs(text):
    """The tuple of the values of an inputs text."""
    if len(text) > MOST_BYTES:
        raise NoInputs()
    inputs = Inputs()
    for piece in pieces_of(text):
        inputs.take(piece)
    return tuple(inputs.take_end(""))
