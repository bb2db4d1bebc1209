"""The errors of twicestep: each one carries, as thing, the value that it is about."""


class StepError(Exception):
    """The base class of all errors of twicestep."""


class BadNumber(StepError):
    """A value that is no number, or a divisor that is zero."""

    def __init__(self, thing):
        self.thing = thing


class OtherRoot(StepError):
    """A value with another root than what stands before it."""

    def __init__(self, thing):
        self.thing = thing


class BadPolynomial(StepError):
    """A value that is no polynomial of the kind asked for."""

    def __init__(self, thing):
        self.thing = thing


class BadRule(StepError):
    """A value that is no rule."""

    def __init__(self, thing):
        self.thing = thing


class BadPlace(StepError):
    """A value that is no place to begin a row at."""

    def __init__(self, thing):
        self.thing = thing


class BadCount(StepError):
    """A value that is no integer from 0 on."""

    def __init__(self, thing):
        self.thing = thing


class BadFormula(StepError):
    """A value that is no formula."""

    def __init__(self, thing):
        self.thing = thing


class NoFormula(StepError):
    """A value that is no formula of the rule, or a rule without one."""

    def __init__(self, thing):
        self.thing = thing


class BadClass(StepError):
    """A value that is no class of the rule."""

    def __init__(self, thing):
        self.thing = thing


class BadGrowth(StepError):
    """A value that is no growth of the class."""

    def __init__(self, thing):
        self.thing = thing


class BadLine(StepError):
    """A value that is no position of a line."""

    def __init__(self, thing):
        self.thing = thing


class ZeroMiddle(StepError):
    """A rule whose middle polynomial is 0."""

    def __init__(self, thing):
        self.thing = thing


class BadShift(StepError):
    """A value that is no integer to move a rule by."""

    def __init__(self, thing):
        self.thing = thing


class BadFactor(StepError):
    """A value that is no factor."""

    def __init__(self, thing):
        self.thing = thing


class BadParameter(StepError):
    """A value that is no parameter of a named rule."""

    def __init__(self, thing):
        self.thing = thing
