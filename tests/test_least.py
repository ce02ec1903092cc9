import itertools
import random
import unittest
from fractions import Fraction

from firstanswers.errors import InvalidCount, OtherField, OtherLetters, TooMany
from firstanswers.fields import Fractions, Modulo
from firstanswers.least import LOOKED_THROUGH, cost_total, first_columns, first_rows, is_alike, is_normal, least, parting
from firstanswers.least import size_of, totals, words_of
from firstanswers.machines import Machine
from firstanswers.orders import Order
from plain import FIELDS, combination, is_combination, kept, plain, plain_value, random_machine, rank_of, turned_round
from support import Checks, all_words, any_values, is_plain_integer, listed

ORDERS = [Order("ab"), Order("ab", b=3), Order("ab", a=2), Order("ab", a=5, b=4)]


def counts_machine():
    return Machine(Fractions(), "ab", [1, 0], {"a": [[1, 1], [0, 1]], "b": [[1, 0], [0, 1]]}, [0, 1])


def some_machines(letters, seed):
    """Machines of some kinds over several fields, many of them with more states than they need."""
    chance = random.Random(seed)
    for field in FIELDS:
        one, other, small = [random_machine(field, letters, size, chance) for size in (2, 3, 1)]
        yield Machine.zero(field, letters)
        yield Machine.constant(field, letters, 0)
        yield Machine.constant(field, letters, 1)
        yield Machine.of_word(field, letters, letters[-1] + letters[0])
        yield one
        yield other
        yield one + one
        yield one - turned_round(one, chance)
        yield one + small
        yield one * one
        yield one.followed(small)
        yield one * Machine.constant(field, letters, 0)
        table = {letter: [[1, 1, 0], [0, 1, 0], [0, 1, 1]] for letter in letters}
        # States that are never reached, and states that no end tells of.
        yield Machine(field, letters, [1, 0, 0], table, [1, 1, 1])
        yield Machine(field, letters, [1, 0, 1], table, [0, 1, 0])


def plain_series(machine, longest):
    return {word: cut_value(machine, word) for word in all_words(machine.letters, longest)}


def cut_value(machine, word):
    return plain(machine.field, kept(machine.field, plain_value(machine, word)))


def plain_first(machine, order, is_column):
    """The first rows or columns, by all words in a plain list and their values with all words behind or ahead."""
    field, size = machine.field, machine.size
    values = {}
    found, lines = [], []
    for word in listed(order.costs, max(order.costs.values()) * max(size - 1, 0)) if size else []:
        others = all_words(machine.letters, size - 1)
        for other in others:
            joined = other + word if is_column else word + other
            if joined not in values:
                values[joined] = cut_value(machine, joined)
        line = [values[other + word if is_column else word + other] for other in others]
        if not is_combination(field, line, lines):
            found.append(word)
        lines.append(line)
    return tuple(found)


class AlikeTests(Checks, unittest.TestCase):
    def test_against_all_short_words(self):
        chance = random.Random(1)
        for letters in ("a", "ab"):
            machines = list(some_machines(letters, 2))
            for one, other in itertools.product(machines, repeat=2):
                if one.field == other.field and one.size + other.size < 8:
                    words = all_words(letters, max(one.size + other.size - 1, 0))
                    alike = all(kept(one.field, plain_value(one, word) - plain_value(other, word)) == 0 for word in words)
                    self.assertIs(is_alike(one, other), alike)
                    order = Order(letters, a=chance.choice([1, 2, 5]))
                    first = parting(one, other, order)
                    self.assertIs(first is None, alike)
                    if not alike:
                        words = listed(order.costs, order.cost(first))
                        parted = [word for word in words if kept(one.field, plain_value(one, word) - plain_value(other, word))]
                        self.assert_same(first, parted[0])
                        self.assertLess(len(first), one.size + other.size)

    def test_alike_with_other_tables(self):
        chance = random.Random(3)
        for field in FIELDS:
            for size in (1, 2, 5, 12):
                machine = random_machine(field, "abc", size, chance)
                other = turned_round(machine, chance)
                self.assertIs(is_alike(machine, other), True)
                self.assertIsNone(parting(machine, other, Order("abc", b=4)))
                self.assertTrue(is_alike(machine.turned().turned(), other + Machine.zero(field, "abc")))
                self.assertEqual(machine.size == 1, machine == other)
                longer = other + Machine.of_word(field, "abc", "abc")
                self.assertFalse(is_alike(machine, longer))
                self.assertEqual("abc", parting(other=longer, order=Order("abc", a=4), one=machine))
                self.assertFalse(is_alike(other=machine, one=longer))

    def test_parting_at_the_last_possible_word(self):
        field = Modulo(999999937)

        def powers(roots, others):
            """Powers of some roots in such shares that, with those of the others, the first values are all 0 but the last."""
            shares = []
            for root in roots:
                share = 1
                for other in [*roots, *others]:
                    share = share * (root - other if other != root else 1) % field.prime
                shares.append(pow(share, -1, field.prime))
            table = [[root if one == other else 0 for one in range(len(roots))] for other, root in enumerate(roots)]
            nothing = [[0] * len(roots) for _ in roots]
            return Machine(field, "ab", [1] * len(roots), {"a": table, "b": nothing}, shares)
        for one, other in ((1, 1), (2, 1), (3, 4), (24, 1), (5, 24), (24, 24)):
            left, right = list(range(1, one + 1)), list(range(one + 1, one + other + 1))
            parts = powers(left, right), powers(right, left).scaled(field.prime - 1)
            for order in (Order("ab"), Order("ab", a=9), Order("ab", b=9)):
                self.assert_same(parting(*parts, order), "a" * (one + other - 1))
            self.assertFalse(is_alike(*parts))

    def test_few_words_are_looked_at(self):
        # Very many words are before this one.
        word = "d" * 23
        one = Machine.of_word(Fractions(), "abcd", word)
        self.assertEqual(word, parting(one, one.scaled(2), Order("abcd")))
        self.assertEqual(word, parting(one, Machine.zero(Fractions(), "abcd"), Order("abcd", d=9)))
        self.assertEqual(24, size_of(one))

    def test_no_states(self):
        for field in FIELDS:
            zero = Machine.zero(field, "ab")
            self.assertIs(is_alike(zero, zero), True)
            self.assertIs(is_alike(zero, Machine.constant(field, "ab", 0)), True)
            self.assertIs(is_alike(Machine.constant(field, "ab", 1), zero), False)
            self.assertIsNone(parting(zero, zero, Order("ab")))
            self.assert_same(parting(zero, Machine.constant(field, "ab", 1), Order("ab")), "")
            self.assert_same(parting(Machine.of_word(field, "ab", "b"), zero, Order("ab")), "b")

    def test_fractions_apart_by_little(self):
        number = 10 ** 99
        one = Machine(Fractions(), "a", [1], {"a": [[(1, number)]]}, [1])
        other = Machine(Fractions(), "a", [1], {"a": [[(1, number + 1)]]}, [1])
        self.assertEqual("a", parting(one, other, Order("a")))

    def test_errors(self):
        one = counts_machine()
        field, letters = one.reduced(5), Machine.zero(Fractions(), "a")
        both = Machine.zero(Modulo(5), "b")
        order, wrong = Order("ab"), Order("abc")
        self.assert_raises(OtherField, {}, is_alike, one, field)
        self.assert_raises(OtherField, {}, is_alike, one, both)
        self.assert_raises(OtherLetters, {}, is_alike, one, letters)
        for each in (order, wrong):
            self.assert_raises(OtherField, {}, parting, one, field, each)
            self.assert_raises(OtherField, {}, parting, one, both, each)
            self.assert_raises(OtherLetters, {}, parting, one, letters, each)
        self.assert_raises(OtherLetters, {}, parting, one, one, wrong)
        self.assert_raises(OtherLetters, {}, parting, letters, letters, order)
        for call in (first_rows, first_columns, least, is_normal, totals, words_of):
            self.assert_raises(OtherLetters, {}, call, one, wrong)
            self.assert_raises(OtherLetters, {}, call, Machine.zero(Fractions(), "ab"), Order("a"))
        self.assert_raises(OtherLetters, {}, cost_total, one, wrong, -1)


class RowTests(Checks, unittest.TestCase):
    def test_against_plain_rows_and_columns(self):
        for letters, orders in (("a", [Order("a"), Order("a", a=7)]), ("ab", ORDERS), ("abc", [Order("abc", a=2)])):
            for machine in some_machines(letters, 4):
                if machine.size <= (4 if letters != "abc" else 2):
                    for order in orders:
                        rows, columns = first_rows(machine, order), first_columns(machine, order)
                        self.assert_same(rows, plain_first(machine, order, False))
                        self.assert_same(columns, plain_first(machine, order, True))
                        self.assertEqual(len(rows), len(columns))
                        self.assert_same(size_of(machine), len(rows))

    def test_prefixes_and_suffixes(self):
        chance = random.Random(5)
        for field in FIELDS:
            machine = random_machine(field, "abc", 15, chance)
            order = Order("abc", c=2)
            rows, columns = first_rows(order=order, machine=machine), first_columns(order=order, machine=machine)
            for words, cut in ((rows, slice(None, -1)), (columns, slice(1, None))):
                self.assert_same(words, tuple(order.sorted_words(*words)))
                self.assertEqual(size_of(machine), len(words))
                for word in words:
                    self.assertTrue(word == "" or word[cut] in words)

    def test_rank_of_the_values(self):
        chance = random.Random(6)
        for field in FIELDS:
            for machine in (random_machine(field, "ab", 6, chance), random_machine(field, "a", 7, chance)):
                words = all_words(machine.letters, 5 if machine.letters == "ab" else 6)
                if machine.letters == "ab":
                    words = words[:40]
                values = [[cut_value(machine, one + other) for other in words] for one in words]
                self.assertEqual(rank_of(field, values), size_of(machine))

    def test_size_is_the_same_for_all_orders(self):
        chance = random.Random(7)
        for field in FIELDS:
            for machine in (random_machine(field, "ab", 9, chance), random_machine(field, "ab", 3, chance) * counts_like(field)):
                sizes = {len(first_rows(machine, order)) for order in ORDERS}
                sizes |= {len(first_columns(machine, order)) for order in ORDERS}
                self.assertEqual({size_of(machine)}, sizes)


def counts_like(field):
    return Machine(field, "ab", [1, 0], {"a": [[1, 1], [0, 1]], "b": [[1, 0], [0, 1]]}, [0, 1])


class LeastTests(Checks, unittest.TestCase):
    def assert_normal_form(self, machine, order):
        normal = least(machine, order)
        self.assertIs(type(normal), Machine)
        self.assertEqual([machine.field, machine.letters], [normal.field, normal.letters])
        rows = first_rows(machine, order)
        self.assertEqual([len(rows), size_of(machine)], [normal.size] * 2)
        self.assert_same(normal.start, tuple([1] + [0] * (len(rows) - 1) if rows else []))
        for at, word in enumerate(rows):
            self.assert_same(normal.ends[at], machine.value_of(word))
            for letter in machine.letters:
                row = normal.tables[letter][at]
                if word + letter in rows:
                    self.assert_same(row, tuple([int(each == word + letter) for each in rows]))
                else:
                    for number, each in zip(row, rows):
                        self.assertTrue(number == 0 or order.is_before(each, word + letter))
        self.assertIs(is_normal(normal, order), True)
        self.assertIs(is_normal(machine, order), machine == normal)
        return normal

    def test_form(self):
        for letters, orders in (("a", [Order("a", a=7)]), ("ab", ORDERS), ("abc", [Order("abc", a=2)])):
            for machine in some_machines(letters, 8):
                for order in orders:
                    normal = self.assert_normal_form(machine, order)
                    for word in all_words(letters, 4):
                        self.assert_same(normal.value_of(word), machine.value_of(word))
                    self.assertTrue(is_alike(normal, machine))

    def test_against_plain_combinations(self):
        for machine in some_machines("ab", 9):
            if machine.size <= 4:
                order = Order("ab", b=2)
                rows = plain_first(machine, order, False)
                words = all_words("ab", 3)
                lines = [[cut_value(machine, row + word) for word in words] for row in rows]
                for at, row in enumerate(rows):
                    for letter in "ab":
                        line = [cut_value(machine, row + letter + word) for word in words]
                        numbers = [kept(machine.field, number) for number in combination(machine.field, line, lines)]
                        self.assert_same(list(least(machine, order).tables[letter][at]), numbers)

    def test_equal_for_alike_machines(self):
        chance = random.Random(10)
        for field in FIELDS:
            for size in (1, 2, 6):
                machine = random_machine(field, "ab", size, chance)
                others = [turned_round(machine, chance), machine + Machine.zero(field, "ab"),
                          machine * Machine.constant(field, "ab", 1), machine.followed(Machine.of_word(field, "ab", "")),
                          (machine + counts_like(field)) - counts_like(field), least(machine, Order("ab", a=3))]
                for order in ORDERS:
                    for other in others:
                        self.assertEqual(least(machine, order), least(order=order, machine=other))
                        self.assertTrue(is_normal(order=order, machine=least(other, order)))

    def test_unlike_machines(self):
        chance = random.Random(11)
        for field in FIELDS:
            one, other = random_machine(field, "ab", 3, chance), random_machine(field, "ab", 3, chance)
            self.assertEqual(is_alike(one, other), least(one, Order("ab")) == least(other, Order("ab")))

    def test_no_states(self):
        for field in FIELDS:
            for machine in (Machine.zero(field, "ab"), Machine.constant(field, "ab", 0),
                            counts_like(field) - counts_like(field)):
                self.assertEqual(Machine.zero(field, "ab"), least(machine, Order("ab")))
                self.assertEqual(machine.size == 0, is_normal(machine, Order("ab")))
                self.assert_same(size_of(machine), 0)
                self.assert_same(first_rows(machine, Order("ab")), ())
                self.assert_same(first_columns(machine, Order("ab")), ())

    def test_great_fractions(self):
        chance = random.Random(12)

        def great():
            number = Fraction(chance.randint(-10 ** 99, 10 ** 99), chance.choice([1, 10 ** 99 + 7, 3 ** 200, 2]))
            return kept(Fractions(), number)

        def row(size):
            return [great() for _ in range(size)]
        for letters, size in (("a", 5), ("ab", 3)):
            order = Order(letters, a=2)
            tables = {letter: [row(size) for _ in range(size)] for letter in letters}
            machine = Machine(Fractions(), letters, row(size), tables, row(size))
            normal = self.assert_normal_form(machine, order)
            double = least(machine + machine, order)
            self.assertEqual(normal.tables, double.tables)
            self.assertEqual(least(machine.scaled(2), order), double)
            for word in all_words(letters, 2):
                self.assert_same(normal.value_of(word), machine.value_of(word))
            self.assertTrue(is_alike(machine, normal))
            self.assertEqual(size, len(first_columns(normal, order)))

    def test_24_states(self):
        chance = random.Random(13)
        for field in FIELDS:
            for letters in ("a", "ab", "abcd"):
                machine = random_machine(field, letters, 24, chance)
                order = Order(letters, a=2)
                normal = self.assert_normal_form(machine, order)
                self.assertGreater(normal.size, 15)
                self.assertTrue(is_alike(machine, normal))
                other = turned_round(machine, chance)
                self.assertTrue(is_alike(machine, other))
                self.assertEqual(normal, least(other, order))
            half = random_machine(field, "ab", 12, chance)
            double = half + turned_round(half, chance)
            expected = Machine.zero(field, "ab") if field.prime == 2 else least(half.scaled(2), Order("ab"))
            self.assertEqual(expected, least(double, Order("ab")))

    def test_numbers_that_a_prime_divides(self):
        # The prime through which the program looks at fractions divides numbers, bottoms and determinants here.
        for prime in (LOOKED_THROUGH, 2, 999999937):
            tables = {"a": [[1, prime], [0, 1]], "b": [[(1, prime), 0], [prime, 1]]}
            for ends in ([1, 0], [prime, 0], [0, (1, prime)], [(1, prime), prime]):
                for table in (tables["b"], tables["a"]):
                    machine = Machine(Fractions(), "ab", [1, prime], {**tables, "b": table}, ends)
                    self.assert_normal_form(machine, Order("ab"))
                    self.assert_same(first_rows(machine, Order("ab")), plain_first(machine, Order("ab"), False))
                    self.assert_same(first_columns(machine, Order("ab")), plain_first(machine, Order("ab"), True))
                    self.assertIsNone(words_of(machine, Order("ab")))
            once = Machine(Fractions(), "a", [1, 0], {"a": [[0, prime], [0, 0]]}, [1, 1])
            self.assertEqual([("", 1), ("a", prime)], words_of(once, Order("a")))
            self.assertIsNone(words_of(Machine(Fractions(), "a", [1], {"a": [[prime]]}, [1]), Order("a")))
            large = Machine.constant(Fractions(), "a", prime)
            self.assertFalse(is_alike(large, Machine.zero(Fractions(), "a")))
            self.assertEqual([1, ("",)], [size_of(large), first_rows(large, Order("a"))])


class TotalTests(Checks, unittest.TestCase):
    def test_against_plain_sums(self):
        for letters, orders in (("a", [Order("a"), Order("a", a=3)]), ("ab", ORDERS), ("abc", [Order("abc", a=2, c=3)])):
            for machine in some_machines(letters, 14):
                for order in orders:
                    values = {}
                    for word in listed(order.costs, 6):
                        values[order.cost(word)] = values.get(order.cost(word), 0) + plain_value(machine, word)
                    for cost in range(7):
                        self.assert_same(cost_total(machine, order, cost), kept(machine.field, values.get(cost, 0)))

    def test_at_300(self):
        for order in (Order("a"), Order("a", a=7), Order("ab"), Order("ab", b=2), Order("abcd", a=9, b=3, c=4, d=7)):
            count = order.count_words(300)
            self.assert_same(cost_total(Machine.constant(Fractions(), order.letters, 1), order, 300), count)
            self.assert_same(cost_total(Machine.constant(Modulo(7), order.letters, 3), order, 300), 3 * count % 7)
            half = Machine(Fractions(), order.letters, [1], {letter: [[(1, 2)]] for letter in order.letters}, [(1, 3)])
            if len(set(order.costs.values())) == 1:
                total = Fraction(count, 3 * 2 ** (300 // order.costs["a"]))
                self.assert_same(cost_total(half, order, 300), kept(Fractions(), total))
        self.assert_same(cost_total(counts_machine(), Order("ab"), 300), 150 * 2 ** 300)
        self.assert_same(cost_total(Machine.zero(Fractions(), "ab"), Order("ab"), 300), 0)

    def test_fractions_with_unlike_costs(self):
        machine = Machine(Fractions(), "ab", [1, (1, 2)], {"a": [[(1, 2), 1], [0, 2]], "b": [[1, 0], [(1, 3), 1]]}, [1, (1, 5)])
        order = Order("ab", a=2, b=5)
        rows = [[Fraction(1), Fraction(1, 2)]]
        for cost in range(1, 301):
            row = [Fraction(0)] * 2
            for letter in "ab":
                if cost >= order.costs[letter]:
                    past, table = rows[cost - order.costs[letter]], machine.tables[letter]
                    row = [row[at] + sum(past[i] * plain(Fractions(), table[i][at]) for i in range(2)) for at in range(2)]
            rows.append(row)
        for cost in (0, 1, 2, 3, 9, 10, 77, 299, 300):
            total = rows[cost][0] + rows[cost][1] / 5
            self.assert_same(cost_total(machine, order, cost), kept(Fractions(), total))

    def test_count_errors(self):
        machine = counts_machine()
        for value in any_values() + [300, 301]:
            if is_plain_integer(value) and 0 <= value <= 300:
                self.assert_same(cost_total(cost=value, order=Order("ab"), machine=machine), value * 2 ** value // 2)
            else:
                self.assert_raises(InvalidCount, {"value": value}, cost_total, machine, Order("ab"), value)
            self.assert_raises(OtherLetters, {}, cost_total, machine, Order("a"), value)

    def test_totals(self):
        for letters, orders in (("a", [Order("a"), Order("a", a=3)]), ("ab", ORDERS), ("abc", [Order("abc", a=2, c=3)])):
            for machine in some_machines(letters, 15):
                for order in orders:
                    size = machine.size * max(order.costs.values())
                    if size > 24:
                        self.assert_raises(TooMany, {"limit": 24}, totals, machine, order)
                        continue
                    summed = totals(order=order, machine=machine)
                    self.assert_same([summed.letters, summed.size], ["a", size])
                    self.assertEqual(machine.field, summed.field)
                    for cost in (0, 1, 2, 3, 4, 5, 6, 17):
                        self.assert_same(summed.value_of("a" * cost), cost_total(machine, order, cost))

    def test_totals_of_24_and_25_states(self):
        for field in (Fractions(), Modulo(7)):
            for size, cost in ((24, 1), (12, 2), (3, 8), (4, 6), (0, 9)):
                machine = random_machine(field, "b", size, random.Random(16))
                summed = totals(machine, Order("b", b=cost))
                self.assertEqual(size * cost, summed.size)
                self.assert_same(summed.value_of("a" * 2 * cost), machine.value_of("bb"))
                self.assert_same(summed.value_of("a" * (2 * cost + 1)), machine.value_of("bbb") if cost == 1 else 0)
            for size, cost in ((5, 5), (13, 2), (24, 2), (3, 9)):
                machine = random_machine(field, "b", size, random.Random(17))
                self.assert_raises(TooMany, {"limit": 24}, totals, machine, Order("b", b=cost))
                self.assert_raises(OtherLetters, {}, totals, machine, Order("bc", b=cost))


class WordsTests(Checks, unittest.TestCase):
    def chain(self, field, *choices):
        """The machine with the value 1 for the words whose letters are among these choices, each at its place."""
        size = len(choices) + 1
        tables = {letter: [[0] * size for _ in range(size)] for letter in "abcd"}
        for at, letters in enumerate(choices):
            for letter in letters:
                tables[letter][at][at + 1] = 1
        return Machine(field, "abcd", [1] + [0] * (size - 1), tables, [0] * (size - 1) + [1])

    def test_no_word(self):
        for field in FIELDS:
            for machine in (Machine.zero(field, "ab"), Machine.constant(field, "ab", 0),
                            counts_like(field) - counts_like(field)):
                self.assert_same(words_of(machine, Order("ab")), [])

    def test_some_words(self):
        for field in FIELDS:
            words = {"": 1, "b": 1, "ab": 1, "ba": 1, "bab": 1, "aaaa": 1}
            machine = Machine.zero(field, "ab")
            for word in words:
                machine = machine + Machine.of_word(field, "ab", word)
            for order in ORDERS:
                expected = [(word, words[word]) for word in order.sorted_words(*words)]
                self.assert_same(words_of(machine, order), expected)
                self.assert_same(words_of(order=order, machine=turned_round(machine, random.Random(18))), expected)
        some = Machine.of_word(Fractions(), "ab", "ab").scaled((-2, 3)) + Machine.of_word(Fractions(), "ab", "").scaled(7)
        self.assert_same(words_of(some, Order("ab")), [("", 7), ("ab", (-2, 3))])
        self.assert_same(words_of(Machine.of_word(Modulo(2), "abcd", "dcba" * 5), Order("abcd")), [("dcba" * 5, 1)])

    def test_infinitely_many(self):
        for field in FIELDS:
            for machine in (Machine.constant(field, "ab", 1), counts_like(field), counts_like(field) * counts_like(field),
                            Machine.of_word(field, "ab", "ab").followed(Machine.constant(field, "ab", 1))):
                self.assertIsNone(words_of(machine, Order("ab")))
        # Finitely many words end in each letter alone, but not both in turn.
        turns = Machine(Fractions(), "ab", [1, 0], {"a": [[0, 1], [0, 0]], "b": [[0, 0], [1, 0]]}, [1, 0])
        self.assertIsNone(words_of(turns, Order("ab")))
        self.assertIsNone(words_of(turns.reduced(2), Order("ab")))
        # Values that cancel out each other.
        self.assertEqual([], words_of(turns - turns, Order("ab")))
        self.assertEqual([("b", 2)], words_of(turns + Machine.of_word(Fractions(), "ab", "b").scaled(2) - turns, Order("ab")))

    def test_against_plain_values(self):
        chance = random.Random(19)
        seen = 0
        for _ in range(300):
            field = chance.choice([Modulo(2), Modulo(3), Fractions()])
            size = chance.randint(1, 3)
            tables = {letter: [[chance.choice([0, 0, 0, 1]) for _ in range(size)] for _ in range(size)] for letter in "ab"}
            machine = Machine(field, "ab", [chance.choice([0, 1]) for _ in range(size)], tables, [chance.choice([0, 1]) for _ in range(size)])
            values = [(word, machine.value_of(word)) for word in listed({"a": 1, "b": 2}, 10)]
            found = words_of(machine, Order("ab", b=2))
            # From as many letters on as there are states, there is no other value if finitely many are not 0.
            late = [value for word, value in values if size <= len(word) and value != 0]
            if found is None:
                self.assertTrue(late)
            else:
                seen += 1
                self.assertEqual([], late)
                self.assert_same(found, [pair for pair in values if pair[1] != 0])
        self.assertGreater(seen, 50)

    def test_1000_and_1001(self):
        for field in FIELDS:
            parts = [self.chain(field, "abcd", "abcd", "abcd", "abcd", "abc"), self.chain(field, "abcd", "abd", "abcd", "abcd"),
                     self.chain(field, "abcd", "abc", "bcd"), self.chain(field, "abcd")]
            machine = parts[0] + parts[1] + parts[2] + parts[3]
            found = words_of(machine, Order("abcd", c=2))
            self.assertEqual(1000, len(found))
            self.assertEqual(sorted(found, key=lambda pair: (Order("abcd", c=2).cost(pair[0]), pair[0])), found)
            self.assertEqual({1}, {value for _, value in found})
            more = machine + Machine.of_word(field, "abcd", "")
            self.assert_raises(TooMany, {"limit": 1000}, words_of, more, Order("abcd"))
            self.assertIsNone(words_of(more + Machine.constant(field, "abcd", 1), Order("abcd")))
            fewer = words_of(more - Machine.of_word(field, "abcd", "aaaa"), Order("abcd"))
            self.assertEqual([1000, ("", 1)], [len(fewer), fewer[0]])
            self.assertNotIn("aaaa", dict(fewer))

    def test_1000_and_1001_of_one_length(self):
        for field in FIELDS:
            parts = [self.chain(field, "abc", "abcd", "abcd", "abcd", "abcd"), self.chain(field, "d", "abc", "abcd", "abcd", "abcd"),
                     self.chain(field, "d", "d", "ab", "abcd", "abcd"), self.chain(field, "d", "d", "c", "ab", "abcd")]
            machine = parts[0] + parts[1] + parts[2] + parts[3]
            found = words_of(machine, Order("abcd"))
            self.assertEqual([1000, {5}], [len(found), {len(word) for word, _ in found}])
            more = least(machine, Order("abcd")) + Machine.of_word(field, "abcd", "ddddd")
            self.assert_raises(TooMany, {"limit": 1000}, words_of, more, Order("abcd"))

    def test_very_many_words(self):
        for field in (Fractions(), Modulo(2)):
            machine = self.chain(field, *["abcd"] * 23)
            self.assert_raises(TooMany, {"limit": 1000}, words_of, machine, Order("abcd"))
            endless = self.chain(field, *["abcd"] * 22) + Machine.constant(field, "abcd", 1)
            self.assertIsNone(words_of(endless, Order("abcd")))


class ObjectTests(Checks, unittest.TestCase):
    def test_nothing_changes(self):
        machine, order = counts_machine(), Order("ab")
        tables = least(machine, order).tables
        tables["a"] = ()
        words_of(Machine.of_word(Fractions(), "ab", "a"), order).clear()
        for call in (least, first_rows, first_columns, is_normal, words_of, totals):
            self.assertEqual(call(machine, order), call(machine, order))
        self.assertEqual(counts_machine(), machine)

    def test_example(self):
        counts, order = counts_machine(), Order("ab")
        self.assertEqual([3, 12], [size_of(machine=counts * counts), cost_total(counts, order, 3)])
        found = [first_rows(counts, order), first_columns(counts, order), parting(counts, counts.scaled((1, 2)), order)]
        self.assert_same(found, [("", "a"), ("", "a"), "a"])
        self.assert_same(least(counts, order).tables, {"a": ((0, 1), (-1, 2)), "b": ((1, 0), (0, 1))})


if __name__ == "__main__":
    unittest.main()
