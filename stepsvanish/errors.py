"""The errors that the program raises.

No message contains an integer of the caller: Python refuses to write very
long integers in decimal digits.
"""


class StepError(ValueError):
    """The base class of all errors of the program."""


class InvalidGroup(StepError):
    """A table or a list of permutations does not give a group."""


class InvalidTarget(StepError):
    """The moduli do not give a target, or the target has not the right form."""


class InvalidElement(StepError):
    """An integer is not an element of the group."""


class InvalidValue(StepError):
    """A tuple is not a value of the target, or the images do not give a map."""


class InvalidVector(StepError):
    """A list of integers has a wrong length or wrong entries."""


class InvalidModulus(StepError):
    """An integer is not a modulus, or not a prime number where one is needed."""


class InvalidIndex(StepError):
    """An index or a position is out of range."""


class InvalidPairing(StepError):
    """A table does not give a pairing."""


class InvalidName(StepError):
    """A string is not a name, or the name is taken."""


class UnknownName(StepError):
    """No map has the name."""


class InvalidText(StepError):
    """A line of a text is not as it must be.

    The attribute `line` is the number of the line, counted from 1.
    """

    def __init__(self, line):
        self.line = line


class Conflict(StepError):
    """No map agrees with the images and the bound.

    The attributes `component` and `coefficients` are a refutation.
    """

    def __init__(self, component, coefficients):
        self.component = component
        self.coefficients = list(coefficients)


class LimitExceeded(StepError):
    """A group or a target would be too large."""


class Mismatch(StepError):
    """The groups, targets or other parts of two objects differ."""


class NotSubgroup(StepError):
    """A list of elements is not a subgroup."""


class NotNormal(StepError):
    """A subgroup is not normal."""


class NotHomomorphism(StepError):
    """A list of images is not a homomorphism."""


class NotPrimePower(StepError):
    """An order is not a power of the prime number."""


class DegreeTooHigh(StepError):
    """The degree of a map is above the bound."""


class NoDegree(StepError):
    """A map or a series has no degree, or does not exist."""
