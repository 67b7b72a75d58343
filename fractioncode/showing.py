"""Code shown as a code text."""

from fractioncode.blocks import WITH_SMALL_NUMBER
from fractioncode.exact import fraction_text


def instruction_words(instruction):
    """The tokens of an instruction as it's shown."""
    word = instruction.word
    if word == "num":
        return [word, fraction_text(instruction.value), str(instruction.value.weight)]
    if word == "pow" or word in WITH_SMALL_NUMBER:
        return [word, str(instruction.number)]
    return [word]


def code_text(blocks):
    """The text as which code is shown."""
    words = []
    for block in blocks:
        words.extend(["block", str(block.made_with), str(block.itself)])
        for instruction in block.instructions:
            words.extend(instruction_words(instruction))
    return " ".join(words)
