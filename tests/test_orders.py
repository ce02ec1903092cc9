import itertools
import random
import unittest

from firstanswers.errors import InvalidCost, InvalidCount, InvalidLetters, InvalidWord, OutOfRange
from firstanswers.orders import Order
from support import Checks, all_words, any_values, is_plain_integer, is_word, listed

COSTS = [
    {"a": 1}, {"q": 9}, {"a": 1, "b": 1}, {"a": 1, "b": 2}, {"a": 2, "b": 1}, {"a": 9, "b": 1}, {"a": 6, "z": 4},
    {"a": 9, "b": 8}, {"a": 1, "b": 1, "c": 1}, {"a": 3, "b": 1, "c": 2}, {"b": 6, "d": 9, "f": 4},
    {"w": 1, "x": 1, "y": 1, "z": 1}, {"a": 2, "b": 3, "c": 5, "d": 7}, {"a": 9, "b": 6, "c": 9, "d": 3},
    {"a": 4, "b": 4, "c": 8, "d": 6},
]
LISTED = 400


def order_of(costs):
    return Order("".join(costs), **costs)


def first_words(costs, many):
    """The first words by the plain listing, at least so many of them, or all up to 160 times a single letter."""
    most = 0
    if len(costs) == 1:
        return listed(costs, 160 * max(costs.values()))
    while len(listed(costs, most)) < many:
        most += 1
    return listed(costs, most)


def place(costs, word):
    return sum(costs[letter] for letter in word), word


def taken(generator, many):
    return list(itertools.islice(generator, many))


class MakingTests(Checks, unittest.TestCase):
    def test_properties(self):
        order = Order("abz", z=3, a=3)
        self.assert_same(order.letters, "abz")
        self.assert_same(order.costs, {"a": 3, "b": 1, "z": 3})
        self.assert_same(order.latest, "z")
        self.assert_same(Order("ab").costs, {"a": 1, "b": 1})
        self.assert_same(Order("ab").latest, "b")
        self.assert_same(Order("abc", a=5, b=5).latest, "b")
        self.assert_same(Order("abc", a=9, b=8, c=7).latest, "a")
        self.assert_same(Order(letters="ab", b=9).costs, {"a": 1, "b": 9})

    def test_letters(self):
        right = ["a", "z", "ab", "xyz", "abcd", "aqyz"]
        for letters in right:
            self.assertEqual(letters, Order(letters).letters)
        for letters in ["", "ba", "aa", "aab", "abcde", "A", "aB", "a ", " a", "a\n", "`a", "a{", "1", "\u00e4", "a\u00e4", "-"]:
            self.assert_raises(InvalidLetters, {"value": letters}, Order, letters)
            self.assert_raises(InvalidLetters, {"value": letters}, Order, letters, a=0)
        for value in any_values():
            if not isinstance(value, str):
                self.assert_raises(InvalidLetters, {"value": value}, Order, value)

    def test_costs(self):
        for value in any_values() + list(range(-1, 12)):
            if is_plain_integer(value) and 1 <= value <= 9:
                self.assertEqual(value, Order("ab", b=value).costs["b"])
            else:
                self.assert_raises(InvalidCost, {"letter": "b"}, Order, "ab", b=value)

    def test_first_wrong_keyword(self):
        self.assert_raises(InvalidCost, {"letter": "a"}, Order, "ab", b=0, a=10)
        self.assert_raises(InvalidCost, {"letter": "b"}, Order, "ab", z=1, b=0, a=9)
        self.assert_raises(InvalidCost, {"letter": "A"}, Order, "ab", b=0, A=1)
        self.assert_raises(InvalidCost, {"letter": "c"}, Order, "ab", c=1)
        self.assert_raises(InvalidCost, {"letter": "ab"}, Order, "ab", ab=1)
        self.assert_raises(InvalidCost, {"letter": ""}, Order, "ab", **{"": 1})
        self.assert_raises(InvalidCost, {"letter": "aa"}, Order, "abc", aa=1, b=0)

    def test_of_costs(self):
        for costs in COSTS:
            backwards = {letter: costs[letter] for letter in reversed(costs)}
            order = Order.of_costs(costs=backwards)
            self.assertEqual(order_of(costs), order)
            self.assert_same(order.costs, costs)
        self.assert_raises(InvalidCost, {"letter": "a"}, Order.of_costs, {"b": 0, "a": 0})
        self.assert_raises(InvalidCost, {"letter": "b"}, Order.of_costs, {"b": 10, "a": 9, "c": None})
        for wrong in ({}, {"a": 0, "B": 1}, {"ab": 1}, {"": 1}, {"a": 1, 1: 1}, {None: 0}, dict.fromkeys("abcde", 1),
                      {"a": 1, ("b",): 1}, {"letters": 1}, {"self": 1}, {"a": 0, "~": 1}):
            self.assert_raises(InvalidLetters, {"value": wrong}, Order.of_costs, wrong)

    def test_of_any_value(self):
        for value in any_values():
            if value == {"a": 1} or value == {"a": 1, "b": 2} or value == {"b": 9}:
                continue
            if isinstance(value, dict) and value and all(name in ("a", "b") for name in value):
                self.assert_raises(InvalidCost, {"letter": "a"}, Order.of_costs, value)
            else:
                self.assert_raises(InvalidLetters, {"value": value}, Order.of_costs, value)

    def test_equality(self):
        orders = [order_of(costs) for costs in COSTS]
        for one, other in itertools.product(range(len(COSTS)), repeat=2):
            self.assertEqual(one == other, orders[one] == orders[other])
        self.assertEqual(Order("ab"), Order("ab", a=1))
        self.assertNotEqual(Order("a"), Order("b"))
        for value in any_values():
            self.assertEqual(isinstance(value, Order) and value.letters == "ab", Order("ab") == value)

    def test_copies(self):
        costs = {"a": 1, "b": 2}
        order = Order.of_costs(costs)
        costs["a"] = 7
        order.costs["b"] = 7
        self.assertEqual({"a": 1, "b": 2}, order.costs)
        self.assertEqual(3, order.cost("ab"))


class ListingTests(Checks, unittest.TestCase):
    def test_in_order(self):
        for costs in COSTS:
            order, words = order_of(costs), first_words(costs, LISTED)
            self.assert_same(taken(order.words(), len(words)), words)
            for number, word in enumerate(words):
                self.assert_same(order.number_of(word), number)
                self.assert_same(order.word_at(number), word)
                self.assert_same(order.cost(word), sum(costs[letter] for letter in word))
            for one, other in zip(words, words[1:]):
                self.assert_same(order.after(one), other)
                self.assert_same(order.before(other), one)
            self.assertIsNone(order.before(""))

    def test_pairs(self):
        for costs in COSTS:
            order, words = order_of(costs), first_words(costs, 40)
            for (one, word), (other, later) in itertools.product(enumerate(words[:40]), repeat=2):
                self.assert_same(order.is_before(word, later), one < other)
                self.assert_same(list(order.spread(word, later)), words[one:other + 1])

    def test_starts(self):
        for costs in COSTS:
            order, words = order_of(costs), first_words(costs, LISTED)
            for number in (0, 1, 7, 30, 100):
                self.assert_same(taken(order.words(words[number]), 50), words[number:number + 50])

    def test_count_words(self):
        for costs in COSTS:
            order, words = order_of(costs), listed(costs, 7)
            for cost in range(8):
                found = [word for word in words if order.cost(word) == cost]
                self.assert_same(order.count_words(cost), len(found))
        self.assert_same(Order("abcd").count_words(1000), 4 ** 1000)
        self.assert_same(Order("ab", a=2, b=2).count_words(999), 0)
        self.assert_same(Order("q", q=9).count_words(999), 1)
        self.assert_same(Order("ab", a=1, b=2).count_words(4), 5)
        for value in any_values() + [1001, 10 ** 999]:
            if is_plain_integer(value) and 0 <= value <= 1000:
                self.assertEqual(2 ** value, Order("ab").count_words(value))
            else:
                self.assert_raises(InvalidCount, {"value": value}, Order("ab").count_words, value)

    def test_first_and_last_word_of_each_cost(self):
        for size in (1, 2, 3):
            for some in itertools.combinations(range(1, 10), size):
                order, number, word = Order.of_costs(dict(zip("abc", some))), 0, None
                for cost in range(80):
                    many = order.count_words(cost)
                    if many:
                        first, last = order.word_at(number), order.word_at(number + many - 1)
                        self.assertEqual([cost, cost], [order.cost(first), order.cost(last)])
                        self.assertEqual(word, order.before(first))
                        if word is not None:
                            self.assertEqual(first, order.after(word))
                        number, word = number + many, last

    def test_example(self):
        order = Order("ab", b=2)
        self.assertEqual(["", "a", "aa", "b", "aaa", "ab", "ba", "aaaa", "aab", "aba", "baa", "bb"],
                         [word for word in order.spread("", "bb")])
        self.assertEqual([6, "ba", 5, "b", "aaaaa", {"a": 1, "b": 2}],
                         [order.number_of("ba"), order.word_at(6), order.count_words(4), order.latest,
                          order.after("bb"), order.costs])

    def test_sorted_words(self):
        chance = random.Random(3)
        for costs in COSTS:
            order, words = order_of(costs), first_words(costs, 60)
            some = [chance.choice(words) for _ in range(80)]
            self.assert_same(order.sorted_words(*some), [word for word in words if word in some])
        self.assert_same(Order("ab").sorted_words(), [])
        self.assert_same(Order("ab").sorted_words("", ""), [""])


class LongWordTests(Checks, unittest.TestCase):
    def test_numbers_of_long_words(self):
        chance = random.Random(4)
        for costs in COSTS:
            order, letters = order_of(costs), list(costs)
            for size in (100, 159, 160):
                word = "".join(chance.choice(letters) for _ in range(size))
                number = order.number_of(word)
                self.assert_same(order.word_at(number), word)
                later = order.after(word)
                self.assertGreaterEqual(place(costs, later), place(costs, word))
                if len(later) <= 160:
                    self.assertEqual(number + 1, order.number_of(later))
                earlier = order.before(word)
                self.assertLessEqual(place(costs, earlier), place(costs, word))
                if len(earlier) <= 160:
                    self.assertEqual([earlier, word], taken(order.words(earlier), 2))
                    self.assertEqual(number - 1, order.number_of(earlier))

    def test_edge_of_160_letters(self):
        order = Order("ab")
        self.assertEqual(2 ** 161 - 2, order.number_of("b" * 160))
        self.assertEqual("b" * 160, order.word_at(2 ** 161 - 2))
        self.assertEqual("a" * 161, order.after("b" * 160))
        self.assertEqual(["b" * 160, "a" * 161, "a" * 160 + "b"], taken(order.words("b" * 160), 3))
        for number in (2 ** 161 - 1, 2 ** 161, 10 ** 999, 10 ** 1000 - 1):
            self.assert_raises(OutOfRange, {"value": number}, order.word_at, number)
        for word in ("a" * 161, "b" * 161):
            self.assertNotIn(word, order)
            for call in (order.cost, order.number_of, order.after, order.before, order.sorted_words):
                self.assert_raises(InvalidWord, {"value": word}, call, word)
        self.assertEqual(160, Order("a").number_of("a" * 160))
        self.assert_raises(OutOfRange, {"value": 161}, Order("a").word_at, 161)
        self.assert_raises(OutOfRange, {"value": 161}, Order("a", a=9).word_at, 161)
        self.assertEqual("a" * 160, Order("a", a=9).word_at(160))

    def test_long_and_short_words_of_one_cost(self):
        order = Order("ab", b=9)
        self.assertEqual("a" * 160, order.word_at(order.number_of("a" * 160)))
        number = order.number_of("a" * 160)
        beyond = number + order.count_words(160)
        self.assert_raises(OutOfRange, {"value": beyond}, order.word_at, beyond)
        self.assertEqual("a" * 161, taken(order.words("b" * 17 + "a" * 7), 2)[1])
        self.assertEqual("a" * 152 + "b", order.word_at(beyond + 1))
        word = "b" * 160
        self.assertEqual(word, order.word_at(order.number_of(word)))
        later = order.number_of(word) + 1
        self.assert_raises(OutOfRange, {"value": later}, order.word_at, later)
        self.assertGreater(len(str(Order("abcd", d=9).number_of("d" * 160))), 600)

    def test_before_may_return_longer_words(self):
        order = Order("ab", b=9)
        self.assertEqual("a" * 162, order.before("a" * 153 + "b"))
        self.assert_raises(InvalidWord, {"value": "a" * 162}, order.after, "a" * 162)


class WrongValueTests(Checks, unittest.TestCase):
    def test_words(self):
        order = Order("ab", b=2)
        calls = [order.cost, order.number_of, order.after, order.before, order.sorted_words,
                 lambda value: order.is_before(value, None), lambda value: order.is_before("a", value),
                 lambda value: order.sorted_words("a", value, "c"), lambda value: next(order.words(value)),
                 lambda value: next(order.spread(value, None)), lambda value: list(order.spread("b", value))]
        for value in any_values() + ["c", "abc", "aB", "a" * 161, "a" * 159 + "c", "a" * 5000]:
            self.assert_same(value in order, is_word(value, "ab"))
            if not is_word(value, "ab"):
                for call in calls:
                    self.assert_raises(InvalidWord, {"value": value}, call, value)
            else:
                self.assertEqual(len(value) + value.count("b"), order.cost(value))

    def test_numbers(self):
        for value in any_values() + [-10 ** 999]:
            if is_plain_integer(value) and 0 <= value < 2 ** 161 - 1:
                self.assertEqual(value, Order("ab").number_of(Order("ab").word_at(value)))
            else:
                self.assert_raises(OutOfRange, {"value": value}, Order("ab").word_at, value)

    def test_nothing_changes(self):
        order = Order("ab", b=2)
        generator = order.words()
        self.assertEqual("", next(generator))
        for call in (order.cost, order.after, order.word_at, order.count_words):
            with self.assertRaises((ValueError, LookupError)):
                call("x")
        self.assertEqual(Order("ab", b=2), order)
        self.assertEqual("a", next(generator))


class GeneratorTests(Checks, unittest.TestCase):
    def test_left_early_and_in_turn(self):
        order = Order("ab", a=3, b=2)
        words = first_words({"a": 3, "b": 2}, 60)
        one, other = order.words(), order.words("ab")
        at = words.index("ab")
        for step in range(20):
            self.assertEqual(words[step], next(one))
            self.assertEqual(words[at + step], next(other))
        one.close()
        self.assertEqual(words[at + 20], next(other))
        self.assertEqual(words[:20], taken(order.words(), 20))
        spread = order.spread("b", "ab")
        self.assertEqual("b", next(spread))
        self.assertEqual(["b", "a"], taken(order.spread("b", "ab"), 2))
        self.assertEqual("a", next(spread))

    def test_first_or_last_wrong(self):
        order = Order("ab")
        self.assert_raises(InvalidWord, {"value": "x"}, lambda: next(order.spread("x", "y")))
        self.assert_raises(InvalidWord, {"value": "y"}, lambda: next(order.spread("a", "y")))
        self.assertEqual([], list(order.spread("b", "a")))
        self.assertEqual(["b"], list(order.spread("b", "b")))
        self.assertEqual([], list(order.spread("a" * 160, "")))

    def test_by_name(self):
        order = Order("ab", b=2)
        self.assertEqual(3, order.cost(word="ab"))
        self.assertEqual(5, order.number_of(word="ab"))
        self.assertTrue(order.is_before(other="b", word="a"))
        self.assertEqual("ab", order.word_at(number=5))
        self.assertEqual("ba", order.after(word="ab"))
        self.assertEqual("aaa", order.before(word="ab"))
        self.assertEqual(2, order.count_words(cost=2))
        self.assertEqual("ab", next(order.words(word="ab")))
        self.assertEqual(["aa", "b"], list(order.spread(last="b", first="aa")))
        self.assertEqual("", next(order.words()))

    def test_no_words_of_other_orders(self):
        self.assertEqual(sorted(all_words("ab", 4)), sorted(taken(Order("ab").words(), 31)))


if __name__ == "__main__":
    unittest.main()
