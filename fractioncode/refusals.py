"""The ways in which a run is refused, each with its number."""


class Refused(Exception):
    """What all refusals of a run are; number tells which one."""

    def __init__(self, number):
        Exception.__init__(self)
        self.number = number


class DividedByZero(Refused):
    """A number was to be divided by 0."""

    def __init__(self):
        Refused.__init__(self, 1)


class NoRoot(Refused):
    """A fraction is no fraction's square."""

    def __init__(self):
        Refused.__init__(self, 2)


class TooHeavy(Refused):
    """A number would get too large a weight."""

    def __init__(self):
        Refused.__init__(self, 3)


class NoCallLeft(Refused):
    """The budget of calls is used up."""

    def __init__(self):
        Refused.__init__(self, 4)


class TooDeep(Refused):
    """A called frame would get too large a depth."""

    def __init__(self):
        Refused.__init__(self, 5)


class WrongSort(Refused):
    """A value isn't of the sort that an instruction or a fold frame takes."""

    def __init__(self):
        Refused.__init__(self, 6)


class Broken(Refused):
    """An instruction, a value, a local or a block that a step needs isn't there."""

    def __init__(self):
        Refused.__init__(self, 7)
