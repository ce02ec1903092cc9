"""The errors of the program, each directly below one of Python's own.

Each hands its fields on as its message, without a wording of its own: a field may be any value,
and a number of thousands of digits cannot be written into a text.
"""


class InvalidPrime(ValueError):
    """A value that is not a prime from 2 to 10 ** 9."""

    def __init__(self, value):
        ValueError.__init__(self, value)
        self.value = value


class InvalidNumber(ValueError):
    """A value that is no number of the field."""

    def __init__(self, value):
        ValueError.__init__(self, value)
        self.value = value


class InvalidLetters(ValueError):
    """A value that is not 1 to 4 letters."""

    def __init__(self, value):
        ValueError.__init__(self, value)
        self.value = value


class InvalidCost(ValueError):
    """A letter that has no right cost, or a name that is no letter."""

    def __init__(self, letter):
        ValueError.__init__(self, letter)
        self.letter = letter


class InvalidWord(ValueError):
    """A value that is not a word over the letters."""

    def __init__(self, value):
        ValueError.__init__(self, value)
        self.value = value


class InvalidCount(ValueError):
    """A value that is not an integer within the limits."""

    def __init__(self, value):
        ValueError.__init__(self, value)
        self.value = value


class InvalidMachine(ValueError):
    """The name of the first part of a machine that is not as it must be."""

    def __init__(self, part):
        ValueError.__init__(self, part)
        self.part = part


class InvalidAnswer(ValueError):
    """The number of the word whose answer is no number of the field."""

    def __init__(self, number):
        ValueError.__init__(self, number)
        self.number = number


class InvalidCoordinates(ValueError):
    """Too few or too many coordinates, or one that is no number of the field."""

    def __init__(self):
        ValueError.__init__(self)


class InvalidText(ValueError):
    """The position of the first line that cannot stand there."""

    def __init__(self, line):
        ValueError.__init__(self, line)
        self.line = line


class InvalidRow(ValueError):
    """A value that is no row of a desk."""

    def __init__(self, row):
        ValueError.__init__(self, row)
        self.row = row


class OtherField(ValueError):
    """Another field than the one that is needed."""

    def __init__(self):
        ValueError.__init__(self)


class OtherLetters(ValueError):
    """Other letters than the ones that are needed."""

    def __init__(self):
        ValueError.__init__(self)


class TooSmall(ValueError):
    """A bound for numbers of states that is smaller than this least size."""

    def __init__(self, least_size):
        ValueError.__init__(self, least_size)
        self.least_size = least_size


class Contradiction(ValueError):
    """A known word that was told with another value."""

    def __init__(self, word):
        ValueError.__init__(self, word)
        self.word = word


class OutOfRange(LookupError):
    """A number to which there is nothing."""

    def __init__(self, value):
        LookupError.__init__(self, value)
        self.value = value


class NotKnown(LookupError):
    """A value that is no known word."""

    def __init__(self, value):
        LookupError.__init__(self, value)
        self.value = value


class NotNow(LookupError):
    """A word that is not asked yet, or not any more."""

    def __init__(self, word):
        LookupError.__init__(self, word)
        self.word = word


class Nothing(LookupError):
    """Nothing to undo or to redo."""

    def __init__(self):
        LookupError.__init__(self)


class Done(LookupError):
    """No question is left."""

    def __init__(self):
        LookupError.__init__(self)


class NoQuotient(ArithmeticError):
    """A division by zero."""

    def __init__(self):
        ArithmeticError.__init__(self)


class NotFinite(ArithmeticError):
    """Infinitely many series, where all of them are asked for."""

    def __init__(self):
        ArithmeticError.__init__(self)


class TooMany(OverflowError):
    """More than this limit."""

    def __init__(self, limit):
        OverflowError.__init__(self, limit)
        self.limit = limit


class TooLong(OverflowError):
    """A number with too many digits to be written."""

    def __init__(self):
        OverflowError.__init__(self)


class LimitReached(RuntimeError):
    """More would be spent than this limit."""

    def __init__(self, limit):
        RuntimeError.__init__(self, limit)
        self.limit = limit
