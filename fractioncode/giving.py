"""The instructions that only take values and give one: what each gives."""

from fractioncode.exact import is_less, is_same, raised, rooted, worked_out
from fractioncode.sorts import Function, Pair, Truth, empty_chain, longer_chain


def give_num(instruction, taken):
    """num gives its number."""
    return instruction.value


def give_true(instruction, taken):
    """true gives that truth."""
    return Truth(True)


def give_false(instruction, taken):
    """false gives that truth."""
    return Truth(False)


def give_nil(instruction, taken):
    """nil gives the empty list."""
    return empty_chain()


def give_fn(instruction, taken):
    """fn gives a function that's made with what is taken."""
    return Function(instruction.number, taken)


def give_pair(instruction, taken):
    """pair gives the pair of what is taken."""
    return Pair(taken[0], taken[1])


def give_fst(instruction, taken):
    """fst gives a pair's first value."""
    return taken[0].first


def give_snd(instruction, taken):
    """snd gives a pair's second value."""
    return taken[0].second


def give_cons(instruction, taken):
    """cons gives a list with one value more at its beginning."""
    return longer_chain(taken[0], taken[1])


def give_worked_out(instruction, taken):
    """add, sub, mul, div, floor, rest give what they work out of two numbers."""
    return worked_out(instruction.word, taken[0], taken[1])


def give_pow(instruction, taken):
    """pow gives a power of a number."""
    return raised(taken[0], instruction.number)


def give_root(instruction, taken):
    """root gives a number's root."""
    return rooted(taken[0])


def give_less(instruction, taken):
    """less gives the truth whether one number is below the other."""
    return Truth(is_less(taken[0], taken[1]))


def give_same(instruction, taken):
    """same gives the truth whether two numbers are the same fraction."""
    return Truth(is_same(taken[0], taken[1]))


GIVERS = {
    "num": give_num,
    "true": give_true,
    "false": give_false,
    "nil": give_nil,
    "fn": give_fn,
    "pair": give_pair,
    "fst": give_fst,
    "snd": give_snd,
    "cons": give_cons,
    "add": give_worked_out,
    "sub": give_worked_out,
    "mul": give_worked_out,
    "div": give_worked_out,
    "floor": give_worked_out,
    "rest": give_worked_out,
    "pow": give_pow,
    "root": give_root,
    "less": give_less,
    "same": give_same,
}


def only_gives(instruction):
    """Whether an instruction is one of those told here."""
    return instruction.word in GIVERS


def given(instruction, taken):
    """What an instruction gives of the tuple of the values it takes."""
    return GIVERS[instruction.word](instruction, taken)
