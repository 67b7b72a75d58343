"""The sorts of values. Each value tells its sort as kind; no value is changed once it is made."""


class Number:
    """The fraction top / bottom with bottom above 0, maybe not in lowest terms, and its weight.

    Lowest terms are sought only where a fraction is read or shown: the weight bounds how long top and bottom get,
    and dividing them down at each step would take far longer than the steps themselves.
    """

    def __init__(self, top, bottom, weight):
        self.kind = "number"
        self.top = top
        self.bottom = bottom
        self.weight = weight


class Truth:
    """A truth; holds is True or False."""

    def __init__(self, holds):
        self.kind = "truth"
        self.holds = holds


class Chain:
    """A list: size values, the first one and the chain of the others (both None if size is 0).

    Chained, so that a longer list or the list of the others is had without a copy.
    """

    def __init__(self, size, first, others):
        self.kind = "list"
        self.size = size
        self.first = first
        self.others = others


class Pair:
    """A pair of values."""

    def __init__(self, first, second):
        self.kind = "pair"
        self.first = first
        self.second = second


class Function:
    """A function: its block's number and the tuple of the values it was made with."""

    def __init__(self, block, kept):
        self.kind = "function"
        self.block = block
        self.kept = kept


def empty_chain():
    """The list without values."""
    return Chain(0, None, None)


def longer_chain(first, others):
    """The list that begins with first and goes on with the list others."""
    return Chain(others.size + 1, first, others)


def chain_of(values):
    """The list of the values of a Python list."""
    chain = empty_chain()
    for value in reversed(values):
        chain = longer_chain(value, chain)
    return chain


def chain_values(chain):
    """The values of a list as a Python list."""
    values = []
    while chain.size > 0:
        values.append(chain.first)
        chain = chain.others
    return values
