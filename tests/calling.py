"""Calls as they are handed in, and answers taken apart."""

from fractioncode.machine import answers


def row(text):
    """A text's bytes; texts may be given as str or as a row of bytes."""
    return list(text.encode("latin-1")) if isinstance(text, str) else list(text)


def with_length(text):
    return [len(row(text))] + row(text)


def load(checked, code):
    return [0, checked] + with_length(code)


def check(code):
    return [1] + with_length(code)


def show():
    return [2]


def heights(block):
    return [3, block]


def begin(budget, inputs):
    return [4, budget] + with_length(inputs)


def step(n):
    return [5, n]


def run():
    return [6]


def back(n):
    return [7, n]


def answer():
    return [8]


def frames():
    return [9]


def look(frame):
    return [10, frame]


def count():
    return [11]


def apart(numbers):
    """The answers, one list for each call."""
    rows = []
    at = 0
    while at < len(numbers):
        count = numbers[at]
        rows.append(numbers[at + 1:at + 1 + count])
        at += 1 + count
    return rows


def ask(*calls):
    """What the calls answer, one list for each."""
    handed = [number for call in calls for number in call]
    return apart(answers(handed))


def text(answered):
    """The text behind an answer's 0."""
    assert answered[0] == 0, answered
    return bytes(answered[1:]).decode("latin-1")


def text_or_refusal(answered):
    """The text behind an answer's 0, or the refusal alone."""
    return text(answered) if answered[0] == 0 else answered


def asked(code, inputs, *calls, budget=1000, checked=0):
    """What the calls answer on a run of the code that has just begun."""
    rows = ask(load(checked, code), begin(budget, inputs), *calls)
    assert rows[:2] == [[0], [0]], rows[:2]
    return rows[2:]


def with_ended(code, inputs=""):
    """What answer tells, as a text or a refusal, once a run of the code has ended."""
    ran_out, answered = asked(code, inputs, run(), answer())
    assert ran_out[0] == 1, ran_out
    return text_or_refusal(answered)


def ran(code, inputs="", budget=1000, checked=0):
    """What step answers once a run of the code has come to its end."""
    loaded, begun, stepped = ask(load(checked, code), begin(budget, inputs), step(100000))
    assert loaded == [0] and begun == [0], (loaded, begun)
    return stepped


def last_refusal(code, inputs="", budget=1000):
    """With which number a run is refused; 0 if it ends."""
    stepped = ran(code, inputs, budget)
    assert stepped[0] in (1, 2), stepped
    return stepped[2] if stepped[0] == 2 else 0


def list_text(length):
    """A list of numbers as it's shown, with so many bytes."""
    digits = length - 2
    numbers = []
    while digits > 150:
        numbers.append("7" * 100)
        digits -= 102
    numbers.append("8" * (digits // 2 - 1))
    numbers.append("9" * (digits - 2 - len(numbers[-1])))
    shown = "[" + ", ".join(numbers) + "]"
    assert len(shown) == length
    return shown
