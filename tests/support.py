"""What several tests use: any values, plain arithmetic, and checks of errors."""

import itertools
from fractions import Fraction

from firstanswers.errors import Done, InvalidWord, TooMany
from firstanswers.fields import Fractions, Modulo
from firstanswers.machines import Machine
from firstanswers.orders import Order


def any_values():
    """A list of values of all kinds that callers may pass as any value; made anew, so that it may be kept."""
    return [
        None, True, False, 0, 1, 2, 5, 7, -1, -7, 10 ** 109, -10 ** 109, 10 ** 100 - 1, 10 ** 100, 1 - 10 ** 100,
        "", "a", "b", "ab", "ba", "aa", "abcde", "A", "z", "-", " ", "\n", "a\n", "a b", "1", "1/2", "modulo 7",
        "fractions", "~", "a" * 160, "a" * 161, "b" * 500,
        (), (1,), (1, 2), (2, 4), (2, 1), (0, 3), (1, 0), (1, -2), (-1, 2), (1, 2, 3), (True, 2), (1, True),
        (None, None), ("1", "2"), ((1, 2), 3), (1, (2, 3)), (10 ** 99, 7), (10 ** 100, 7), (7, 10 ** 100),
        [], [1], [1, 2], [0, 1], [[1]], [[1, 2], [3, 4]], ["a"], [None], [(1, 2)], [[[[[[1]]]]]], ((((((1,),),),),),),
        {}, {"a": 1}, {"a": 1, "b": 2}, {"b": 9}, {"a": 10}, {"a": True}, {"ab": 1}, {1: 1}, {None: None},
        {"a": [[1]]}, {"a": [], "b": []}, {("a",): 1}, {"": 1}, {"A": 1},
        Fractions(), Modulo(7), Order("ab"), Order("a", a=9), Machine.zero(Fractions(), "ab"),
        Machine.constant(Modulo(5), "a", 3), InvalidWord("a"), TooMany(24), Done(),
        [Fractions(), (Order("ab"), {"a": Modulo(2)})], {"a": Machine.zero(Modulo(2), "a")},
    ]


def is_plain_integer(value):
    return type(value) is int


def is_word(value, letters):
    return type(value) is str and len(value) <= 160 and all(letter in letters for letter in value)


def fraction_of(number):
    """The Fraction for a number of the fractions."""
    return Fraction(*number) if isinstance(number, tuple) else Fraction(number)


def number_of(fraction):
    """The number of the fractions for a Fraction."""
    if fraction.denominator == 1:
        return fraction.numerator
    return (fraction.numerator, fraction.denominator)


def all_words(letters, longest):
    """All words with at most so many letters."""
    return ["".join(row) for size in range(longest + 1) for row in itertools.product(letters, repeat=size)]


def listed(costs, most):
    """All words whose cost is at most this, in their order: a plain listing."""
    words = {"": 0}
    fresh = {"": 0}
    while fresh:
        fresh = {word + letter: cost + costs[letter] for word, cost in fresh.items() for letter in costs
                 if cost + costs[letter] <= most}
        words.update(fresh)
    return sorted(words, key=lambda word: (words[word], word))


def same_kind(one, other):
    """Whether two values are equal and of the same kinds, also inside."""
    if type(one) is not type(other):
        return False
    if isinstance(one, (list, tuple)):
        return len(one) == len(other) and all(same_kind(x, y) for x, y in zip(one, other))
    if isinstance(one, dict):
        return list(one) == list(other) and all(same_kind(one[key], other[key]) for key in one)
    return one == other


class Checks:
    """Checks that are mixed into test cases."""

    def assert_same(self, one, other):
        self.assertTrue(same_kind(one, other), f"{one!r} is not {other!r}")

    def assert_raises(self, error, fields, call, *values, **named):
        """That the call raises exactly this error, with these very values as its attributes."""
        with self.assertRaises(error) as caught:
            call(*values, **named)
        self.assertIs(type(caught.exception), error)
        for name, value in fields.items():
            told = getattr(caught.exception, name)
            self.assertTrue(told is value or same_kind(told, value), f"another {name} in {error.__name__}")
