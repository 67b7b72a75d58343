"""Values and frames told: values as texts, frames as rows of numbers."""

from fractioncode.exact import TooLarge, fraction_text
from fractioncode.sorts import chain_values

MOST_PARTS = 2000
MOST_BYTES = 8000
BLOCK_FRAME = 0
FOLD_FRAME = 1


class Telling:
    """A text of values while it's written: its pieces, how many bytes and how many parts it has so far."""

    def __init__(self):
        self.pieces = []
        self.length = 0
        self.parts = 0

    def count_parts(self, more):
        """Count parts ahead of writing them, so that nothing is gone through that has too many."""
        self.parts += more
        if self.parts > MOST_PARTS:
            raise TooLarge()

    def write(self, piece):
        """Write one more piece."""
        self.length += len(piece)
        if self.length > MOST_BYTES:
            raise TooLarge()
        self.pieces.append(piece)

    def whole(self):
        """The text so far."""
        return "".join(self.pieces)


def with_commas(values):
    """The values with what stands between them."""
    row = []
    for value in values:
        if len(row) > 0:
            row.append(", ")
        row.append(value)
    return row


def plain_text(value):
    """The text of a number, a truth or a function."""
    if value.kind == "number":
        return fraction_text(value)
    if value.kind == "truth":
        return "true" if value.holds else "false"
    return "fn"


def opened(value, telling):
    """What a list or a pair is written as: texts, and values that have yet to be written."""
    if value.kind == "list":
        telling.count_parts(value.size)
        return ["["] + with_commas(chain_values(value)) + ["]"]
    telling.count_parts(2)
    return ["(", value.first, ", ", value.second, ")"]


def write_values(values, telling):
    """Write values with commas between; what has yet to be written waits in a list, the next one last."""
    telling.count_parts(len(values))
    waiting = list(reversed(with_commas(values)))
    while len(waiting) > 0:
        piece = waiting.pop()
        if isinstance(piece, str):
            telling.write(piece)
        elif piece.kind in ("list", "pair"):
            waiting.extend(list(reversed(opened(piece, telling))))
        else:
            telling.write(plain_text(piece))


def value_text(value):
    """The text as which a value is shown."""
    telling = Telling()
    write_values([value], telling)
    return telling.whole()


def frame_text(frame):
    """The text of a block frame's working row and its locals."""
    telling = Telling()
    write_values(frame.row, telling)
    telling.write("|")
    write_values(frame.places, telling)
    return telling.whole()


def frame_numbers(frame):
    """The six numbers that tell a frame."""
    if frame.folds:
        return [FOLD_FRAME, frame.coming.size, frame.hand, frame.level, frame.depth, 0]
    return [BLOCK_FRAME, frame.block, frame.at, len(frame.row), len(frame.places), frame.depth]
