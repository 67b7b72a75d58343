"""Texts: rows of bytes, read as signs and written back."""

BLANK = 32
FIRST_SIGN = 40
# The signs of the bytes from 40 to 122, the only ones besides the blank that a right text can have.
SIGNS = "()*+,-./0123456789:;<=>?@ABCDEFGHIJKLMNOPQRSTUVWXYZ[\\]^_`abcdefghijklmnopqrstuvwxyz"


def sign_of(byte):
    """The sign of a byte; a byte that no right text has becomes ?, which no right text has either."""
    if byte == BLANK:
        return " "
    if FIRST_SIGN <= byte < FIRST_SIGN + len(SIGNS):
        return SIGNS[byte - FIRST_SIGN]
    return "?"


def text_of(row):
    """The text of a row of bytes, sign for byte, so that places stay the same."""
    return "".join([sign_of(byte) for byte in row])


def row_of(text):
    """The row of bytes of a text."""
    return [ord(sign) for sign in text]
