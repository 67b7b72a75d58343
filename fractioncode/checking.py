"""Checking: with which height and how many locals each instruction is reached, and what is at fault."""

from fractioncode.blocks import given_count, taken_sorts

JUMPING = ("skip", "unless", "part")


class Passage:
    """What is known of one block while its instructions are gone through in order.

    reached has for each instruction the height and the number of locals, None while nothing was handed
    on to it; its last place, behind the last instruction, is reached just if the block has no right end.
    """

    def __init__(self, blocks, number):
        block = blocks[number]
        count = len(block.instructions)
        self.blocks = blocks
        self.instructions = block.instructions
        self.beginning = block.made_with if number == 0 else block.made_with + block.itself + 1
        self.reached = [(0, self.beginning)] + [None for behind in range(count)]
        self.torn = [False for at in range(count + 1)]

    def hand_on(self, at, height, places):
        """Hand on to the instruction at; it's torn if it was reached otherwise before."""
        if self.reached[at] is None:
            self.reached[at] = (height, places)
        elif self.reached[at] != (height, places):
            self.torn[at] = True


def behind_left_out(at, instruction):
    """The number of the instruction behind those that the instruction at leaves out."""
    return at + 1 + instruction.number


def is_no_right_block(passage, instruction):
    """Whether fn names block 0 or a block that isn't there."""
    return instruction.word == "fn" and not 0 < instruction.number < len(passage.blocks)


def is_no_right_local(passage, instruction, places):
    """Whether get names a local that isn't there, or free takes locals that the block began with."""
    if instruction.word == "get":
        return instruction.number >= places
    return instruction.word == "free" and places - instruction.number < passage.beginning


def fault_where_reached(passage, at, height, places):
    """The fault, from 2 to 5 or 8, of an instruction that's reached so; 0 if there's none."""
    instruction = passage.instructions[at]
    if is_no_right_block(passage, instruction):
        return 2
    if is_no_right_local(passage, instruction, places):
        return 3
    if height < len(taken_sorts(instruction, passage.blocks)):
        return 4
    if instruction.word in JUMPING and behind_left_out(at, instruction) >= len(passage.instructions):
        return 5
    if instruction.word == "ret" and height != 1:
        return 8
    return 0


def fault_at(passage, at):
    """The fault of the instruction at; 0 if there's none."""
    if passage.reached[at] is None:
        return 7
    if passage.torn[at]:
        return 6
    return fault_where_reached(passage, at, passage.reached[at][0], passage.reached[at][1])


def more_places(instruction):
    """How many locals more the next instruction has."""
    if instruction.word == "bind":
        return 1
    if instruction.word == "part":
        return 2
    return -instruction.number if instruction.word == "free" else 0


def hand_on_from(passage, at):
    """Hand on from the instruction at, which has no fault."""
    instruction = passage.instructions[at]
    taken = len(taken_sorts(instruction, passage.blocks))
    height = passage.reached[at][0] - taken + given_count(instruction)
    places = passage.reached[at][1]
    if instruction.word not in ("ret", "skip"):
        passage.hand_on(at + 1, height, places + more_places(instruction))
    if instruction.word in JUMPING:
        passage.hand_on(behind_left_out(at, instruction), height, places)


def block_fault(passage):
    """Go through a block: the number of its first instruction at fault and the fault; None if it's right."""
    count = len(passage.instructions)
    for at in range(count):
        fault = fault_at(passage, at)
        if fault != 0:
            return (at, fault)
        hand_on_from(passage, at)
    return None if passage.reached[count] is None else (count, 9)


def code_fault(blocks):
    """The first block at fault, its instruction and the fault; None if the code is right."""
    for number in range(len(blocks)):
        fault = block_fault(Passage(blocks, number))
        if fault is not None:
            return (number, fault[0], fault[1])
    return None


def block_heights(blocks, number):
    """For each instruction of a block of right code the height and the number of locals, in one list."""
    passage = Passage(blocks, number)
    block_fault(passage)
    heights = []
    for at in range(len(passage.instructions)):
        heights.extend(passage.reached[at])
    return heights
