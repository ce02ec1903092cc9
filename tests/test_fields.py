import itertools
import random
import unittest
from fractions import Fraction
from math import gcd

from firstanswers.errors import InvalidNumber, InvalidPrime, InvalidText, NoQuotient, TooLong
from firstanswers.fields import Field, Fractions, Modulo
from support import Checks, any_values, fraction_of, number_of

LONG = 10 ** 100


def is_fraction_number(value):
    """A plain telling of what the numbers of the fractions are."""
    if type(value) is int:
        return -LONG < value < LONG
    if type(value) is not tuple or len(value) != 2 or [type(part) for part in value] != [int, int]:
        return False
    top, bottom = value
    return bottom >= 2 and gcd(top, bottom) == 1 and -LONG < top < LONG and bottom < LONG


def is_modulo_number(value, prime):
    return type(value) is int and 0 <= value < prime


class FieldTests(Checks, unittest.TestCase):
    def test_classes(self):
        self.assertEqual((Field,), Fractions.__bases__)
        self.assertEqual((Field,), Modulo.__bases__)
        self.assert_same(Field.DIGITS, 100)
        for name in "is_number plus minus times over total text read named".split():
            self.assertIn(name, vars(Field))

    def test_prime_and_name(self):
        self.assertIsNone(Fractions().prime)
        self.assert_same(Fractions().name, "fractions")
        for prime in (2, 3, 7, 101, 999999937):
            self.assert_same(Modulo(prime).prime, prime)
            self.assert_same(Modulo(prime=prime).name, f"modulo {prime}")

    def test_equality(self):
        fields = [Fractions(), Modulo(2), Modulo(3), Modulo(7)]
        for one, other in itertools.product(range(4), repeat=2):
            self.assertEqual(one == other, fields[one] == [Fractions(), Modulo(2), Modulo(3), Modulo(7)][other])
        for value in any_values():
            if not isinstance(value, Field):
                self.assertFalse(Fractions() == value)
                self.assertTrue(Modulo(7) != value)

    def test_small_primes(self):
        primes = [value for value in range(2, 2000) if all(value % other for other in range(2, value))]
        for value in range(-10, 2000):
            if value in primes:
                self.assertEqual(value, Modulo(value).prime)
            else:
                self.assert_raises(InvalidPrime, {"value": value}, Modulo, value)

    def test_large_primes(self):
        for prime in (999999937, 999999929, 99991, 31607, 31627):
            self.assertEqual(prime, Modulo(prime).prime)
        for value in (10 ** 9, 10 ** 9 + 7, 10 ** 9 + 9, 31607 ** 2, 31607 * 31627, 3 * 333333313, 2 ** 29, 561,
                      999999937 * 999999937, 2 ** 89 - 1, 10 ** 109, -7):
            self.assert_raises(InvalidPrime, {"value": value}, Modulo, value)

    def test_any_value_as_prime(self):
        for value in any_values():
            if type(value) is int and value in (2, 5, 7):
                self.assertEqual(value, Modulo(value).prime)
            else:
                self.assert_raises(InvalidPrime, {"value": value}, Modulo, value)


class NumberTests(Checks, unittest.TestCase):
    def test_any_value(self):
        for value in any_values():
            self.assert_same(Fractions().is_number(value), is_fraction_number(value))
            self.assert_same(Modulo(7).is_number(value), is_modulo_number(value, 7))
            self.assert_same(Modulo(2).is_number(value=value), is_modulo_number(value, 2))

    def test_digits(self):
        field = Fractions()
        for value in (LONG - 1, 1 - LONG, (LONG - 1, 2), (1 - LONG, 2), (1, LONG - 1), (LONG - 1, LONG - 2)):
            self.assertTrue(field.is_number(value))
        for value in (LONG, -LONG, (LONG + 1, 2), (-LONG - 1, 2), (1, LONG), (3, LONG + 1), 10 ** 6000):
            self.assertFalse(field.is_number(value))
            self.assert_raises(InvalidNumber, {"value": value}, field.plus, value, 1)

    def test_first_wrong_number(self):
        for field in (Fractions(), Modulo(7)):
            told = is_fraction_number if field.prime is None else lambda value: is_modulo_number(value, 7)
            for value in any_values():
                for call in (field.plus, field.minus, field.times, field.over):
                    if told(value):
                        self.assert_raises(InvalidNumber, {"value": "x"}, call, value, "x")
                        self.assert_raises(InvalidNumber, {"value": "x"}, call, "x", value)
                    else:
                        self.assert_raises(InvalidNumber, {"value": value}, call, value, None)
                        self.assert_raises(InvalidNumber, {"value": value}, call, 1, value)
                        self.assert_raises(InvalidNumber, {"value": value}, call, 0, value)
                        self.assert_raises(InvalidNumber, {"value": value}, call, value, 0)
                if not told(value):
                    self.assert_raises(InvalidNumber, {"value": value}, field.total, 1, 0, value, None)

    def test_no_quotient(self):
        for field in (Fractions(), Modulo(2), Modulo(7)):
            for number in (0, 1):
                self.assert_raises(NoQuotient, {}, field.over, number, 0)
        self.assert_raises(NoQuotient, {}, Fractions().over, (1, 2), 0)
        self.assert_raises(InvalidNumber, {"value": (2, 4)}, Fractions().over, (2, 4), 0)

    def test_fractions(self):
        field = Fractions()
        chance = random.Random(1)
        numbers = [0, 1, -1, 2, (1, 2), (-1, 2), (3, 2), (2, 3), (-5, 6), LONG - 1, 1 - LONG, (LONG - 1, 2),
                   (1, LONG - 1), (LONG - 2, LONG - 1), (1 - LONG, LONG - 2)]
        numbers += [number_of(Fraction(chance.randint(-30, 30), chance.randint(1, 30))) for _ in range(30)]
        for one, other in itertools.product(numbers, repeat=2):
            x, y = fraction_of(one), fraction_of(other)
            self.assert_same(field.plus(one, other), number_of(x + y))
            self.assert_same(field.minus(one, other), number_of(x - y))
            self.assert_same(field.times(one, other), number_of(x * y))
            if y:
                self.assert_same(field.over(one, other), number_of(x / y))
        for many in range(8):
            some = chance.sample(numbers, many)
            self.assert_same(field.total(*some), number_of(sum(map(fraction_of, some), Fraction())))

    def test_whole_results(self):
        field = Fractions()
        self.assert_same(field.plus((1, 2), (1, 2)), 1)
        self.assert_same(field.minus((1, 2), (1, 2)), 0)
        self.assert_same(field.times((2, 3), (3, 2)), 1)
        self.assert_same(field.over((1, 2), (-1, 4)), -2)
        self.assert_same(field.over(1, -2), (-1, 2))
        self.assert_same(field.total((1, 2), (1, 3), (1, 6)), 1)
        self.assert_same(field.total(), 0)

    def test_results_of_any_size(self):
        field = Fractions()
        self.assert_same(field.plus(LONG - 1, 1), LONG)
        self.assert_same(field.times(LONG - 1, LONG - 1), (LONG - 1) ** 2)
        self.assertFalse(field.is_number(field.times(LONG - 1, LONG - 1)))

    def test_modulo(self):
        for prime in (2, 3, 7, 13):
            field = Modulo(prime)
            for one, other in itertools.product(range(prime), repeat=2):
                self.assert_same(field.plus(one, other), (one + other) % prime)
                self.assert_same(field.minus(one, other), (one - other) % prime)
                self.assert_same(field.times(one, other), one * other % prime)
                if other:
                    self.assert_same(field.over(one, other), one * pow(other, -1, prime) % prime)
            self.assert_same(field.total(), 0)
            self.assert_same(field.total(*range(prime)), sum(range(prime)) % prime)
        field, chance = Modulo(999999937), random.Random(2)
        for _ in range(300):
            one, other = chance.randrange(1, 999999937), chance.randrange(1, 999999937)
            self.assert_same(field.over(one, other), one * pow(other, -1, 999999937) % 999999937)
        self.assert_raises(InvalidNumber, {"value": (1, 2)}, field.plus, (1, 2), 1)
        self.assert_raises(InvalidNumber, {"value": -1}, field.plus, 1, -1)
        self.assert_raises(InvalidNumber, {"value": 7}, Modulo(7).total, 6, 7, 8)

    def test_by_name(self):
        field = Fractions()
        self.assertEqual(1, field.minus(other=2, one=3))
        self.assertEqual(5, field.plus(other=2, one=3))
        self.assertEqual(6, field.times(other=2, one=3))
        self.assertEqual((3, 2), field.over(other=2, one=3))
        self.assertEqual("3", field.text(number=3))
        self.assertEqual(3, field.read(text="3"))
        self.assertEqual(Modulo(3), Field.named(text="modulo 3"))


class TextTests(Checks, unittest.TestCase):
    def test_texts(self):
        for number, text in {0: "0", 5: "5", -5: "-5", (1, 2): "1/2", (-13, 10): "-13/10"}.items():
            self.assert_same(Fractions().text(number), text)
            self.assert_same(Fractions().read(text), number)
        self.assert_same(Modulo(7).text(6), "6")
        self.assert_same(Modulo(7).read("6"), 6)

    def test_text_of_any_value(self):
        for value in any_values():
            if is_fraction_number(value):
                self.assert_same(Fractions().read(Fractions().text(value)), value)
            elif type(value) is not int and value not in ((10 ** 100, 7), (7, 10 ** 100)):
                self.assert_raises(InvalidNumber, {"value": value}, Fractions().text, value)
            if is_modulo_number(value, 7):
                self.assert_same(Modulo(7).text(value), str(value))
            else:
                self.assert_raises(InvalidNumber, {"value": value}, Modulo(7).text, value)

    def test_long_texts(self):
        field, longest = Fractions(), 10 ** 1000 - 1
        self.assertEqual("9" * 1000, field.text(longest))
        self.assertEqual("-" + "9" * 1000, field.text(-longest))
        self.assertEqual("9" * 1000 + "/2", field.text((longest, 2)))
        self.assertEqual("-2/" + "9" * 1000, field.text((-2, longest)))
        for number in (longest + 1, -longest - 1, (longest + 2, 2), (-longest - 2, 2), (1, longest + 1),
                       10 ** 5000, (1, 10 ** 5000)):
            self.assert_raises(TooLong, {}, field.text, number)
        self.assert_raises(InvalidNumber, {"value": (10 ** 5000, 10)}, field.text, (10 ** 5000, 10))
        self.assert_raises(InvalidNumber, {"value": 10 ** 5000}, Modulo(7).text, 10 ** 5000)

    def test_read_only_the_exact_text(self):
        field = Fractions()
        wrong = ["", " ", "-", "/", "--1", "+1", "01", "-01", "-0", "00", " 1", "1 ", "1\n", "\n1", "1 /2", "1/ 2", "1/2 ",
                 "1/-2", "-1/-2", "1/1", "2/1", "2/4", "0/3", "1/0", "0/0", "0/1", "1/02", "01/2", "-0/3", "1//2",
                 "1/2/3", "/2", "1/", "1_000", "1.0", "1e3", "0x1", "a", "(1, 2)", "True", "None", "1/+2",
                 "\u0661", "\u00b2", "1" * 101, "-" + "1" * 101, "1" * 101 + "/2", "1/" + "1" * 101,
                 "1" * 5000, "-" + "1" * 5000, "0" * 5000, "1/" + "1" * 5000, "1" * 5000 + "/3"]
        for text in wrong:
            self.assert_raises(InvalidText, {"line": 0}, field.read, text)
        self.assertEqual(int("1" * 100), field.read("1" * 100))
        self.assertEqual((-1, LONG - 1), field.read("-1/" + "9" * 100))
        for text in wrong + ["7", "8", "-1", "1/2", "07"]:
            self.assert_raises(InvalidText, {"line": 0}, Modulo(7).read, text)

    def test_read_any_value(self):
        for value in any_values():
            for field in (Fractions(), Modulo(7)):
                if value in ("1", "1/2") and (field.prime is None or value == "1"):
                    self.assertEqual(value, field.text(field.read(value)))
                else:
                    self.assert_raises(InvalidText, {"line": 0}, field.read, value)

    def test_named(self):
        self.assertEqual(Fractions(), Field.named("fractions"))
        for prime in (2, 7, 999999937):
            field = Field.named(f"modulo {prime}")
            self.assertIs(type(field), Modulo)
            self.assertEqual(prime, field.prime)
        self.assertIs(type(Field.named("fractions")), Fractions)
        wrong = ["", "7", "13", "o 7", "fraction", "Fractions", "fractions ", " fractions", "fractions\n", "modulo", "modulo ", "modulo  7",
                 "modulo 07", "modulo +7", "modulo -7", "modulo 7 ", "modulo 7\n", "modulo 1", "modulo 0", "modulo 4",
                 "modulo 9", "modulo 1000000000", "modulo 1000000007", "modulo 7/1", "modulo x", "modulo7", "Modulo 7",
                 "modulo modulo 7", "modulo \u0667", "modulo \u00b2", "modulo " + "7" * 5000, "modulo " + "0" * 5000 + "7"]
        for text in wrong:
            self.assert_raises(InvalidText, {"line": 0}, Field.named, text)
        for value in any_values():
            if value in ("fractions", "modulo 7"):
                self.assertEqual(value, Field.named(value).name)
            else:
                self.assert_raises(InvalidText, {"line": 0}, Field.named, value)


if __name__ == "__main__":
    unittest.main()
