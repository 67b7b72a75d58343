"""The machine: calls on one object, which holds code or none and a run or none."""

from fractioncode.checking import block_heights, code_fault
from fractioncode.exact import TooLarge
from fractioncode.inputs import NoInputs, read_inputs
from fractioncode.reading import WrongAt, read_code
from fractioncode.running import ENDED, Run, WAS_REFUSED, do_all_steps, do_steps, frames_of, go_back
from fractioncode.showing import code_text
from fractioncode.telling import frame_numbers, frame_text, value_text
from fractioncode.texts import row_of, text_of

MOST_BUDGET = 1000
MOST_STEPS = 100000
OUT_OF_RANGE = -1
NOT_THERE = -2
NO_RUN = -3
NO_CODE = -4
TOO_FEW_STEPS = -5
TOO_LARGE_TO_SHOW = -6
NO_INPUTS_TEXT = -7
OTHER_COUNT = -8
NOT_ENDED = -9


class Held:
    """What an object holds: the code's blocks or None, whether they were loaded as checked, a run or None."""

    def __init__(self):
        self.blocks = None
        self.checked = False
        self.run = None


class Calls:
    """The numbers that are handed in, gone through from the first to the last."""

    def __init__(self, numbers):
        self.numbers = numbers
        self.at = 0

    def are_over(self):
        """Whether no number is left."""
        return self.at == len(self.numbers)

    def take_number(self):
        """The next whole number."""
        number = self.numbers[self.at]
        self.at += 1
        return number

    def take_text(self):
        """The next text, with how many bytes it has before it."""
        length = self.take_number()
        row = self.numbers[self.at:self.at + length]
        self.at += length
        return text_of(row)


def load_as(held, checked, text):
    """Load a code text into held, if nothing is wrong with it."""
    try:
        blocks = read_code(text)
    except WrongAt as wrong:
        return [1, wrong.place]
    fault = code_fault(blocks) if checked else None
    if fault is not None:
        return [2] + list(fault)
    held.blocks = blocks
    held.checked = checked
    held.run = None
    return [0]


def load(held, calls):
    """load: checked, code."""
    checked = calls.take_number()
    text = calls.take_text()
    if checked not in (0, 1):
        return [OUT_OF_RANGE]
    return load_as(held, checked == 1, text)


def check(held, calls):
    """check: code; an object of its own is loaded, so that held stays as it was."""
    return load_as(Held(), True, calls.take_text())


def show(held, calls):
    """show."""
    if held.blocks is None:
        return [NO_CODE]
    return [0] + row_of(code_text(held.blocks))


def heights(held, calls):
    """heights: block."""
    block = calls.take_number()
    if held.blocks is None or not held.checked:
        return [NO_CODE]
    if not 0 <= block < len(held.blocks):
        return [NOT_THERE]
    return [0] + block_heights(held.blocks, block)


def begin(held, calls):
    """begin: budget, inputs."""
    budget = calls.take_number()
    text = calls.take_text()
    if held.blocks is None:
        return [NO_CODE]
    if not 0 <= budget <= MOST_BUDGET:
        return [OUT_OF_RANGE]
    try:
        values = read_inputs(text)
    except NoInputs:
        return [NO_INPUTS_TEXT]
    if len(values) != held.blocks[0].made_with:
        return [OTHER_COUNT]
    held.run = Run(held.blocks, budget, values)
    return [0]


def standing(going, steps):
    """How a run stands, with how many steps are told; once it was refused, with its refusal too."""
    if going.outcome == WAS_REFUSED:
        return [going.outcome, steps, going.refusal]
    return [going.outcome, steps]


def step(held, calls):
    """step: n."""
    n = calls.take_number()
    if held.run is None:
        return [NO_RUN]
    if not 0 <= n <= MOST_STEPS:
        return [OUT_OF_RANGE]
    done = do_steps(held.run, n)
    return standing(held.run, done)


def run(held, calls):
    """run."""
    if held.run is None:
        return [NO_RUN]
    do_all_steps(held.run)
    return standing(held.run, held.run.done)


def back(held, calls):
    """back: n."""
    n = calls.take_number()
    if held.run is None:
        return [NO_RUN]
    if n < 0:
        return [OUT_OF_RANGE]
    if n > held.run.done:
        return [TOO_FEW_STEPS]
    go_back(held.run, n)
    return [held.run.done]


def answer(held, calls):
    """answer."""
    if held.run is None:
        return [NO_RUN]
    if held.run.outcome != ENDED:
        return [NOT_ENDED]
    try:
        text = value_text(held.run.result)
    except TooLarge:
        return [TOO_LARGE_TO_SHOW]
    return [0] + row_of(text)


def frames(held, calls):
    """frames."""
    if held.run is None:
        return [NO_RUN]
    found = frames_of(held.run)
    numbers = [len(found)]
    for frame in found:
        numbers.extend(frame_numbers(frame))
    return numbers


def look(held, calls):
    """look: frame."""
    number = calls.take_number()
    if held.run is None:
        return [NO_RUN]
    found = frames_of(held.run)
    if not 0 <= number < len(found) or found[number].folds:
        return [NOT_THERE]
    try:
        text = frame_text(found[number])
    except TooLarge:
        return [TOO_LARGE_TO_SHOW]
    return [0] + row_of(text)


def count(held, calls):
    """count."""
    if held.run is None:
        return [NO_RUN]
    return [held.run.done, held.run.left]


# By the calls' numbers.
CALLS = (load, check, show, heights, begin, step, run, back, answer, frames, look, count)


def answers(calls):
    """What the calls on one new object answer: for each how many numbers, then these."""
    held = Held()
    going = Calls(calls)
    numbers = []
    while not going.are_over():
        number = going.take_number()
        answered = CALLS[number](held, going)
        numbers.append(len(answered))
        numbers.extend(answered)
    return numbers
