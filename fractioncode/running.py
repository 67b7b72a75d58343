"""The run: its frames, and what one step does to them."""

from fractioncode.blocks import taken_sorts
from fractioncode.giving import given, only_gives
from fractioncode.refusals import Broken, NoCallLeft, Refused, TooDeep, WrongSort

MOST_DEPTH = 160
# How many steps lie between the states of a run that are kept to go back to.
BETWEEN_MARKS = 64
GOES_ON = 0
ENDED = 1
WAS_REFUSED = 2
# What a fold frame has in hand.
RESULT = 0
ONE_VALUE = 1
FUNCTION_AND_VALUE = 2
NOTHING = 3


class BlockFrame:
    """A block's frame: at is its next instruction's number, row its working row, places its locals.

    No frame is changed once it is made: a step puts another one in its place, so that a step that's
    refused on its way leaves all frames as they were. below is the frame below it, or None.
    """

    def __init__(self, block, at, row, places, depth, below):
        self.folds = False
        self.block = block
        self.at = at
        self.row = row
        self.places = places
        self.depth = depth
        self.below = below


class FoldFrame:
    """A fold's frame: f, the chain of what is still to come, and in held what's in hand (hand tells what)."""

    def __init__(self, f, coming, level, depth, hand, held, below):
        self.folds = True
        self.f = f
        self.coming = coming
        self.level = level
        self.depth = depth
        self.hand = hand
        self.held = held
        self.below = below


class Run:
    """A run: its blocks, its topmost frame (None once it has ended), calls left, steps done, how it stands.

    marks are the topmost frame and the calls left as they were ahead of each step whose number (from 0)
    is a multiple of BETWEEN_MARKS: keeping all states would take too much room.
    """

    def __init__(self, blocks, budget, values):
        self.blocks = blocks
        self.topmost = BlockFrame(0, 0, (), values, 0, None)
        self.left = budget
        self.done = 0
        self.outcome = GOES_ON
        self.refusal = 0
        self.result = None
        self.marks = []


def moved(frame, at, row, places):
    """A block frame in another state."""
    return BlockFrame(frame.block, at, row, places, frame.depth, frame.below)


def with_in_hand(frame, coming, hand, held):
    """A fold frame in another state."""
    return FoldFrame(frame.f, coming, frame.level, frame.depth, hand, held, frame.below)


def give_to(run, frame, value):
    """Give a value to the frame, which is the topmost one then; without a frame the run has ended."""
    if frame is None:
        run.topmost = None
        run.outcome = ENDED
        run.result = value
    elif not frame.folds:
        run.topmost = moved(frame, frame.at, frame.row + (value,), frame.places)
    elif frame.hand == ONE_VALUE:
        run.topmost = with_in_hand(frame, frame.coming, FUNCTION_AND_VALUE, (value, frame.held[0]))
    else:
        run.topmost = with_in_hand(frame, frame.coming, RESULT, (value,))


def call(run, f, value, level, frame):
    """Call f with a value; frame is the calling frame as it's to be while it waits."""
    if f.kind != "function":
        raise WrongSort()
    depth = frame.depth + level
    if depth > MOST_DEPTH:
        raise TooDeep()
    if run.left == 0:
        raise NoCallLeft()
    itself = (f,) if run.blocks[f.block].itself == 1 else ()
    run.left -= 1
    run.topmost = BlockFrame(f.block, 0, (), f.kept + itself + (value,), depth, frame)


def do_get(run, frame, row, instruction, taken):
    """get gives a local."""
    run.topmost = moved(frame, frame.at + 1, row + (frame.places[instruction.number],), frame.places)


def do_bind(run, frame, row, instruction, taken):
    """bind makes a value a further local."""
    run.topmost = moved(frame, frame.at + 1, row, frame.places + taken)


def do_free(run, frame, row, instruction, taken):
    """free takes the last locals away."""
    run.topmost = moved(frame, frame.at + 1, row, frame.places[:len(frame.places) - instruction.number])


def do_skip(run, frame, row, instruction, taken):
    """skip leaves the next instructions out."""
    run.topmost = moved(frame, frame.at + 1 + instruction.number, row, frame.places)


def do_unless(run, frame, row, instruction, taken):
    """unless leaves the next instructions out if a truth is false."""
    if taken[0].holds:
        run.topmost = moved(frame, frame.at + 1, row, frame.places)
    else:
        do_skip(run, frame, row, instruction, taken)


def do_part(run, frame, row, instruction, taken):
    """part leaves the next instructions out if a list is empty; else the list's two parts become locals."""
    chain = taken[0]
    if chain.size == 0:
        do_skip(run, frame, row, instruction, taken)
    else:
        run.topmost = moved(frame, frame.at + 1, row, frame.places + (chain.first, chain.others))


def do_call(run, frame, row, instruction, taken):
    """call calls a function."""
    waiting = moved(frame, frame.at + 1, row, frame.places)
    call(run, taken[0], taken[1], instruction.number, waiting)


def do_fold(run, frame, row, instruction, taken):
    """fold puts a fold frame above."""
    waiting = moved(frame, frame.at + 1, row, frame.places)
    held = (taken[1],)
    run.topmost = FoldFrame(taken[0], taken[2], instruction.number, frame.depth, RESULT, held, waiting)


def do_ret(run, frame, row, instruction, taken):
    """ret takes the frame away and gives its value to the one below."""
    give_to(run, frame.below, taken[0])


DOERS = {
    "get": do_get,
    "bind": do_bind,
    "free": do_free,
    "skip": do_skip,
    "unless": do_unless,
    "part": do_part,
    "call": do_call,
    "fold": do_fold,
    "ret": do_ret,
}


def next_instruction(run, frame):
    """The frame's next instruction, if it and what it names are there."""
    instructions = run.blocks[frame.block].instructions
    if frame.at >= len(instructions):
        raise Broken()
    instruction = instructions[frame.at]
    word = instruction.word
    if word == "get" and instruction.number >= len(frame.places):
        raise Broken()
    if word == "free" and instruction.number > len(frame.places):
        raise Broken()
    if word == "fn" and instruction.number >= len(run.blocks):
        raise Broken()
    return instruction


def taken_from(row, sorts):
    """The tuple of the values at the row's end, if they are there and of these sorts."""
    if len(row) < len(sorts):
        raise Broken()
    taken = row[len(row) - len(sorts):]
    for value, kind in zip(taken, sorts):
        if kind != "value" and value.kind != kind:
            raise WrongSort()
    return taken


def step_block(run, frame):
    """A block frame's step; what the doers are handed as row is what's left of the working row."""
    instruction = next_instruction(run, frame)
    taken = taken_from(frame.row, taken_sorts(instruction, run.blocks))
    row = frame.row[:len(frame.row) - len(taken)]
    if only_gives(instruction):
        run.topmost = moved(frame, frame.at + 1, row + (given(instruction, taken),), frame.places)
    else:
        DOERS[instruction.word](run, frame, row, instruction, taken)


def step_fold(run, frame):
    """A fold frame's step; it's at work only with a result, or a function and a value, in hand."""
    if frame.hand == FUNCTION_AND_VALUE:
        waiting = with_in_hand(frame, frame.coming, NOTHING, ())
        call(run, frame.held[0], frame.held[1], frame.level, waiting)
    elif frame.coming.size == 0:
        give_to(run, frame.below, frame.held[0])
    else:
        waiting = with_in_hand(frame, frame.coming.others, ONE_VALUE, (frame.coming.first,))
        call(run, frame.f, frame.held[0], frame.level, waiting)


def do_step(run):
    """One step of a run that goes on."""
    if run.done % BETWEEN_MARKS == 0:
        run.marks.append((run.topmost, run.left))
    run.done += 1
    try:
        if run.topmost.folds:
            step_fold(run, run.topmost)
        else:
            step_block(run, run.topmost)
    except Refused as refused:
        run.outcome = WAS_REFUSED
        run.refusal = refused.number


def do_steps(run, most):
    """As many steps as most, but none after the run's end; how many were done."""
    before = run.done
    while run.outcome == GOES_ON and run.done - before < most:
        do_step(run)
    return run.done - before


def do_all_steps(run):
    """Steps until the run's end."""
    while run.outcome == GOES_ON:
        do_step(run)


def go_back(run, n):
    """Make the run as it was n steps ago, by way of the last mark before that; n isn't above the steps done."""
    if n == 0:
        return
    wanted = run.done - n
    number = wanted // BETWEEN_MARKS
    mark = run.marks[number]
    run.marks = run.marks[:number]
    run.topmost = mark[0]
    run.left = mark[1]
    run.done = number * BETWEEN_MARKS
    run.outcome = GOES_ON
    run.refusal = 0
    run.result = None
    do_steps(run, wanted - run.done)


def frames_of(run):
    """The list of the run's frames, from the undermost one."""
    frames = []
    frame = run.topmost
    while frame is not None:
        frames.append(frame)
        frame = frame.below
    return list(reversed(frames))
