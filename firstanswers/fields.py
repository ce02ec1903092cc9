"""The fields: the fractions, and the integers modulo a prime."""

from math import gcd, isqrt, lcm

from firstanswers.checks import is_between, is_integer
from firstanswers.errors import InvalidNumber, InvalidPrime, InvalidText, NoQuotient, TooLong

GREATEST_PRIME = 10 ** 9
PRIME_DIGITS = 10
DECIMAL_DIGITS = "0123456789"
# The first integer that is too long to be passed: it has one digit more than Field.DIGITS.
FIRST_LONG = (10 ** 50) ** 2


class Field:
    """The fractions or the integers modulo a prime; only its two subclasses are made.

    What is passed to the methods of the interface is looked at. The other methods work with
    numbers of any size and do not look at them again.
    """

    DIGITS = 100

    def __init__(self, prime):
        self._prime = prime

    @property
    def prime(self):
        return self._prime

    @property
    def name(self):
        return "fractions" if self._prime is None else f"modulo {self._prime}"

    def __eq__(self, other):
        return isinstance(other, Field) and self._prime == other._prime

    @staticmethod
    def named(text):
        """The field with this name."""
        if text == "fractions":
            return Fractions()
        if isinstance(text, str) and text.startswith("modulo "):
            prime = integer_of(text.removeprefix("modulo "), PRIME_DIGITS)
            if is_prime(prime):
                return Modulo(prime)
        raise InvalidText(0)

    def is_number(self, value):
        """Whether any value is a number of this field that may be passed."""
        return self.holds(value) and not is_longer(value, FIRST_LONG)

    def plus(self, one, other):
        """The sum of two numbers."""
        self._check([one, other])
        return self.sum_of(one, other)

    def minus(self, one, other):
        """The first number without the second one."""
        self._check([one, other])
        return self.difference_of(one, other)

    def times(self, one, other):
        """The product of two numbers."""
        self._check([one, other])
        return self.product_of(one, other)

    def over(self, one, other):
        """The first number divided by the second one."""
        self._check([one, other])
        if other == 0:
            raise NoQuotient()
        return self.quotient_of(one, other)

    def total(self, *numbers):
        """The sum of all the numbers."""
        self._check(numbers)
        tops, bottom = self.common(numbers)
        return self.ratio(sum(tops), bottom)

    def text(self, number):
        """The number as a text."""
        if not self.holds(number):
            raise InvalidNumber(number)
        if is_longer(number, FIRST_LONG ** 10):
            raise TooLong()
        top, bottom = parts(number)
        return f"{top}" if bottom == 1 else f"{top}/{bottom}"

    def read(self, text):
        """The number with exactly this text."""
        number = number_of(text) if isinstance(text, str) else None
        if not self.is_number(number):
            raise InvalidText(0)
        return number

    def holds(self, value):
        """Whether any value is a number of this field, however long it is."""
        if self._prime is not None:
            return is_between(value, 0, self._prime - 1)
        return is_integer(value) or is_fraction(value)

    def ratio(self, top, bottom):
        """The number top / bottom, for two integers, the second one not zero in this field."""
        if self._prime is None:
            return shortened(top, bottom)
        if bottom == 1:
            return top % self._prime
        return top * inverse(bottom, self._prime) % self._prime

    def sum_of(self, one, other):
        """The sum of two numbers of any size."""
        (top, bottom), (above, below) = parts(one), parts(other)
        return self.ratio(top * below + above * bottom, bottom * below)

    def difference_of(self, one, other):
        """The first number without the second one, of any size."""
        (top, bottom), (above, below) = parts(one), parts(other)
        return self.ratio(top * below - above * bottom, bottom * below)

    def product_of(self, one, other):
        """The product of two numbers of any size."""
        (top, bottom), (above, below) = parts(one), parts(other)
        return self.ratio(top * above, bottom * below)

    def quotient_of(self, one, other):
        """The first number divided by the second one, which is not 0, of any size."""
        (top, bottom), (above, below) = parts(one), parts(other)
        return self.ratio(top * below, bottom * above)

    def negative_of(self, number):
        """Zero without a number of any size."""
        top, bottom = parts(number)
        return self.ratio(-top, bottom)

    def common(self, numbers):
        """The integers, and the one bottom below all of them, that stand for these numbers."""
        if self._prime is not None:
            return numbers, 1
        bottom = 1
        for number in numbers:
            if isinstance(number, tuple):
                bottom = lcm(bottom, number[1])
        if bottom == 1:
            return numbers, 1
        return [above * (bottom // below) for above, below in [parts(each) for each in numbers]], bottom

    def taken(self, number):
        """A fraction of any size, taken modulo the prime of this field."""
        top, bottom = parts(number)
        if bottom % self._prime == 0:
            raise NoQuotient()
        return self.ratio(top, bottom)

    def _check(self, numbers):
        for number in numbers:
            if not self.is_number(number):
                raise InvalidNumber(number)


class Fractions(Field):
    """The fractions: integers, and tuples (top, bottom) that are shortened as far as possible."""

    def __init__(self):
        Field.__init__(self, None)


class Modulo(Field):
    """The integers modulo a prime."""

    def __init__(self, prime):
        if not is_prime(prime):
            raise InvalidPrime(prime)
        Field.__init__(self, prime)


def is_prime(value):
    """Whether any value is a prime up to the greatest one that is allowed."""
    if not is_between(value, 2, GREATEST_PRIME):
        return False
    if value & 1 == 0:
        return value == 2
    for divisor in range(3, isqrt(value) + 1, 2):
        if value % divisor == 0:
            return False
    return True


def is_fraction(value):
    """Whether any value is a tuple (top, bottom) without a common divisor, bottom from 2 on."""
    if not isinstance(value, tuple) or len(value) != 2:
        return False
    top, bottom = value
    return is_integer(top) and is_integer(bottom) and bottom >= 2 and gcd(top, bottom) == 1


def is_longer(number, first_long):
    """Whether top or bottom is at least this integer, without regard to the sign."""
    top, bottom = parts(number)
    return abs(top) >= first_long or bottom >= first_long


def parts(number):
    """The top and the bottom of a number."""
    return number if isinstance(number, tuple) else (number, 1)


def shortened(top, bottom):
    """The fraction top / bottom as a number."""
    if bottom == 1:
        return top
    divisor = gcd(top, bottom)
    if bottom < 0:
        divisor = -divisor
    if bottom == divisor:
        return top // divisor
    return top // divisor, bottom // divisor


def inverse(number, prime):
    """The integer from 1 to prime - 1 that gives 1 modulo the prime, times the number."""
    # Euclid's way: rest and left are always past and now times the number, modulo the prime.
    rest, left = prime, number % prime
    past, now = 0, 1
    while left != 0:
        times = rest // left
        rest, left = left, rest - times * left
        past, now = now, past - times * now
    return past % prime


def integer_of(text, most):
    """The integer from 0 on with exactly this text, None if it is none or has more digits than most."""
    if not 1 <= len(text) <= most or text.strip(DECIMAL_DIGITS) != "":
        return None
    if text.startswith("0") and text != "0":
        return None
    return int(text)


def signed_integer_of(text):
    """The integer with exactly this text, None if it is none that may be passed."""
    if not text.startswith("-"):
        return integer_of(text, Field.DIGITS)
    number = integer_of(text.removeprefix("-"), Field.DIGITS)
    return None if number is None or number == 0 else -number


def number_of(text):
    """The number that the text looks like; it may be no number of the field, or hold None."""
    top, slash, bottom = text.partition("/")
    if slash == "":
        return signed_integer_of(top)
    return signed_integer_of(top), integer_of(bottom, Field.DIGITS)
