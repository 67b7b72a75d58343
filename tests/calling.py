"""Calls as they are handed in, and answers taken apart."""

from fractioncode.machine import answers


def row(text):
    """A text's bytes; texts may be given as str or as a row of bytes."""
    return list(text.encode("latin-1")) if isinstance(text, str) else list(text)


def with_length(text):
    return [len(row(text))] + row(text)


def load(checked, code):
    return [0, checked] + with_length(code)


def check(code):
    return [1] + with_length(code)


def show():
    return [2]


def heights(block):
    return [3, block]


def begin(budget, inputs):
    return [4, budget] + with_length(inputs)


def step(n):
    return [5, n]


def apart(numbers):
    """The answers, one list for each call."""
    rows = []
    at = 0
    while at < len(numbers):
        count = numbers[at]
        rows.append(numbers[at + 1:at + 1 + count])
        at += 1 + count
    return rows


def ask(*calls):
    """What the calls answer, one list for each."""
    handed = [number for call in calls for number in call]
    return apart(answers(handed))


def text(answer):
    """The text behind an answer's 0."""
    assert answer[0] == 0, answer
    return bytes(answer[1:]).decode("latin-1")


def ran(code, inputs="", budget=1000, checked=0):
    """What step answers once a run of the code has come to its end."""
    loaded, begun, stepped = ask(load(checked, code), begin(budget, inputs), step(100000))
    assert loaded == [0] and begun == [0], (loaded, begun)
    return stepped


def last_refusal(code, inputs="", budget=1000):
    """With which number a run is refused; 0 if it ends."""
    stepped = ran(code, inputs, budget)
    assert stepped[0] in (1, 2), stepped
    return stepped[2] if stepped[0] == 2 else 0
