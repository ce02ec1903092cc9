import itertools
import random
import unittest
from fractions import Fraction

from firstanswers.errors import InvalidCount, InvalidLetters, InvalidMachine, InvalidNumber, InvalidPrime, InvalidWord
from firstanswers.errors import NoQuotient, OtherField, OtherLetters, TooMany
from firstanswers.fields import Fractions, Modulo
from firstanswers.machines import Machine
from firstanswers.orders import Order
from plain import FIELDS, kept, plain, plain_state, plain_value, random_machine, random_number
from support import Checks, all_words, any_values, fraction_of, is_plain_integer, is_word, same_kind

def counts_machine():
    return Machine(Fractions(), "ab", [1, 0], {"a": [[1, 1], [0, 1]], "b": [[1, 0], [0, 1]]}, [0, 1])


class MakingTests(Checks, unittest.TestCase):
    def test_properties(self):
        tables = {"b": [((1, 2), 0), [1, 2]], "a": ([3, 4], [5, (-6, 7)])}
        machine = Machine(Fractions(), "ab", (1, 2), tables, [(1, 3), 4])
        self.assertEqual(Fractions(), machine.field)
        self.assert_same(machine.letters, "ab")
        self.assert_same(machine.size, 2)
        self.assert_same(machine.start, (1, 2))
        self.assert_same(machine.ends, ((1, 3), 4))
        self.assert_same(machine.tables, {"a": ((3, 4), (5, (-6, 7))), "b": (((1, 2), 0), (1, 2))})

    def test_copies(self):
        start, ends, tables = [1, 2], [3, 4], {"a": [[1, 2], [3, 4]]}
        machine = Machine(Modulo(7), "a", start, tables, ends)
        before = machine.value_of("aaa")
        start[0], ends[1], tables["a"][0][1] = 5, 6, 6
        tables["a"].append([])
        tables["b"] = []
        machine.tables["a"] = ()
        machine.first_values(Order("a"), 3).append(1)
        self.assertEqual(before, machine.value_of("aaa"))
        self.assertEqual(Machine(Modulo(7), "a", [1, 2], {"a": [[1, 2], [3, 4]]}, [3, 4]), machine)

    def test_by_name(self):
        machine = Machine(ends=[1], tables={"a": [[2]]}, start=[3], letters="a", field=Modulo(7))
        self.assertEqual(Machine(Modulo(7), "a", [3], {"a": [[2]]}, [1]), machine)

    def test_equality(self):
        def machines():
            return [
                Machine(Modulo(7), "a", [1], {"a": [[2]]}, [3]), Machine(Modulo(5), "a", [1], {"a": [[2]]}, [3]),
                Machine(Fractions(), "a", [1], {"a": [[2]]}, [3]), Machine(Modulo(7), "b", [1], {"b": [[2]]}, [3]),
                Machine(Modulo(7), "a", [4], {"a": [[2]]}, [3]), Machine(Modulo(7), "a", [1], {"a": [[4]]}, [3]),
                Machine(Modulo(7), "a", [1], {"a": [[2]]}, [4]), Machine.zero(Modulo(7), "a"),
                Machine.zero(Modulo(7), "ab"),
            ]
        for one, other in itertools.product(range(9), repeat=2):
            self.assertEqual(one == other, machines()[one] == machines()[other])
            self.assertEqual(one != other, machines()[one] != machines()[other])
        for value in any_values():
            self.assertFalse(counts_machine() == value)

    def expected_part(self, part, value):
        """Which part is called wrong if this one of a machine with one state over "a" and Modulo(7) has this value."""
        is_row = type(value) in (list, tuple) and all(is_plain_integer(each) and 0 <= each < 7 for each in value)
        if part == "field":
            return None if isinstance(value, (Fractions, Modulo)) else "field"
        if part == "letters":
            return None if value == "a" else "tables" if value in ("b", "z", "ab") else "letters"
        if part == "start":
            return "start" if not is_row else None if len(value) == 1 else "ends"
        if part == "ends":
            return None if is_row and len(value) == 1 else "ends"
        return None if same_kind(value, {"a": [[1]]}) else "tables"

    def test_each_part_of_any_value(self):
        for part in ("field", "letters", "start", "ends", "tables"):
            for value in any_values():
                parts = {"field": Modulo(7), "letters": "a", "start": [1], "ends": [3], "tables": {"a": [[2]]}, part: value}
                wrong = self.expected_part(part, value)
                if wrong is None:
                    self.assertEqual(1, Machine(**parts).size)
                else:
                    self.assert_raises(InvalidMachine, {"part": wrong}, Machine, **parts)

    def test_order_of_the_parts(self):
        order = ["field", "letters", "start", "ends", "tables"]
        right = {"field": Modulo(7), "letters": "a", "start": [1], "ends": [3], "tables": {"a": [[2]]}}
        for size in range(1, 6):
            for some in itertools.combinations(order, size):
                parts = {**right, **{part: None for part in some}}
                self.assert_raises(InvalidMachine, {"part": some[0]}, Machine, **parts)

    def test_wrong_tables(self):
        rows = [[1, 2], [3, 4]]
        right = {"a": rows, "b": rows}
        self.assertEqual(2, Machine(Modulo(7), "ab", [1, 2], right, [1, 2]).size)
        wrong = [
            {"a": rows}, {"a": rows, "b": rows, "c": rows}, {"a": rows, "c": rows}, {"a": rows, 1: rows},
            {**right, "b": [[1, 2]]}, {**right, "b": [[1, 2], [3, 4], [5, 6]]}, {**right, "b": [[1, 2], [3]]},
            {**right, "b": [[1, 2], [3, 4, 5]]}, {**right, "a": [[1, 2], [3, 7]]}, {**right, "a": [[1, 2], [3, -1]]},
            {**right, "a": [[1, 2], [3, True]]}, {**right, "a": [[1, 2], [3, (1, 2)]]}, {**right, "a": [[1, 2], "12"]},
            {**right, "a": [[1, 2], {1: 1, 2: 2}]}, {**right, "a": {0: [1, 2], 1: [3, 4]}}, {**right, "b": None},
            [rows, rows], (rows, rows), None,
        ]
        for tables in wrong:
            self.assert_raises(InvalidMachine, {"part": "tables"}, Machine, Modulo(7), "ab", [1, 2], tables, [1, 2])
        for row in ([1], [1, 2, 3], [1, 7], [1, -1], [1, False], [1, None], "12", {1: 1, 2: 2}):
            self.assert_raises(InvalidMachine, {"part": "ends"}, Machine, Modulo(7), "ab", [1, 2], right, row)
        for row in ([1, 7], [1, -1], [1, False], [1, None], "12", {1: 1, 2: 2}):
            self.assert_raises(InvalidMachine, {"part": "start"}, Machine, Modulo(7), "ab", row, right, [1, 2])

    def test_digits(self):
        longest = 10 ** 100 - 1
        for number in (longest, -longest, (longest, 2), (1, longest)):
            self.assertEqual(number, Machine(Fractions(), "a", [number], {"a": [[number]]}, [number]).start[0])
        for number in (longest + 1, -longest - 1, (longest + 2, 2), (1, longest + 1), (2, 4), (1, 1)):
            one, tables = [1], {"a": [[1]]}
            self.assert_raises(InvalidMachine, {"part": "start"}, Machine, Fractions(), "a", [number], tables, one)
            self.assert_raises(InvalidMachine, {"part": "ends"}, Machine, Fractions(), "a", one, tables, [number])
            self.assert_raises(InvalidMachine, {"part": "tables"}, Machine, Fractions(), "a", one, {"a": [[number]]}, one)

    def test_24_and_25_states(self):
        for field in FIELDS:
            self.assertEqual(24, random_machine(field, "ab", 24, random.Random(1)).size)
            self.assert_raises(TooMany, {"limit": 24}, random_machine, field, "ab", 25, random.Random(1))
        row, table = [0] * 25, [[0] * 25] * 25
        self.assert_raises(InvalidMachine, {"part": "tables"}, Machine, Modulo(2), "a", row, {"a": table[1:]}, row)
        self.assert_raises(InvalidMachine, {"part": "ends"}, Machine, Modulo(2), "a", row, {"a": table}, row[1:])

    def test_no_states(self):
        for machine in (Machine(Modulo(7), "ab", [], {"a": [], "b": ()}, ()), Machine.zero(Modulo(7), "ab")):
            self.assert_same(machine.start, ())
            self.assert_same(machine.tables, {"a": (), "b": ()})
            self.assert_same(machine.size, 0)
            for word in all_words("ab", 3):
                self.assert_same(machine.value_of(word), 0)
                self.assert_same(machine.state_after(word), ())
        self.assert_raises(InvalidMachine, {"part": "tables"}, Machine, Modulo(7), "a", [], {"a": [[]]}, [])


class ValueTests(Checks, unittest.TestCase):
    def test_against_plain_products(self):
        chance = random.Random(5)
        for field in FIELDS:
            for letters, size in (("a", 0), ("a", 1), ("ab", 2), ("abc", 3), ("wxyz", 2), ("az", 5), ("ab", 24)):
                machine = random_machine(field, letters, size, chance)
                for word in all_words(letters, 3) + ["".join(chance.choices(letters, k=9))]:
                    self.assert_same(machine.value_of(word), kept(field, plain_value(machine, word)))
                    state = tuple([kept(field, number) for number in plain_state(machine, word)])
                    self.assert_same(machine.state_after(word), state)

    def test_long_words(self):
        chance = random.Random(6)
        for field in FIELDS:
            machine = random_machine(field, "ab", 4, chance)
            word = "".join(chance.choices("ab", k=160))
            self.assert_same(machine.value_of(word=word), kept(field, plain_value(machine, word)))
            self.assertEqual(4, len(machine.state_after(word=word)))
            for call in (machine.value_of, machine.state_after, machine.behind, machine.ahead):
                self.assert_raises(InvalidWord, {"value": word + "a"}, call, word + "a")

    def test_fractions_that_come_out_whole(self):
        machine = Machine(Fractions(), "ab", [(1, 2)], {"a": [[(2, 3)]], "b": [[(9, 2)]]}, [(2, 3)])
        self.assert_same(machine.value_of("ab"), 1)
        self.assert_same(machine.value_of("a"), (2, 9))
        self.assert_same(machine.value_of("abab"), 3)
        self.assert_same(machine.state_after("bb"), ((81, 8),))
        double = Machine(Fractions(), "a", [(1, 2), (1, 2)], {"a": [[1, (1, 2)], [0, (1, 2)]]}, [1, 1])
        self.assert_same(double.value_of(""), 1)
        self.assert_same(double.state_after("a"), ((1, 2), (1, 2)))
        cancelled = Machine(Fractions(), "a", [1, -1], {"a": [[(1, 3), 0], [(1, 3), 0]]}, [(1, 5), 7])
        self.assert_same(cancelled.state_after("a"), (0, 0))
        self.assert_same(cancelled.value_of("a"), 0)

    def test_large_values(self):
        number = 10 ** 99 + 7
        machine = Machine(Fractions(), "a", [number], {"a": [[(number, 3)]]}, [1])
        self.assertEqual(Fraction(number ** 161, 3 ** 160), fraction_of(machine.value_of("a" * 160)))

    def test_words_of_any_value(self):
        machine = random_machine(Modulo(7), "ab", 2, random.Random(7))
        for value in any_values() + ["c", "abc", "a" * 159 + "c", "a" * 5000]:
            for call in (machine.value_of, machine.state_after, machine.behind, machine.ahead):
                if is_word(value, "ab"):
                    call(value)
                else:
                    self.assert_raises(InvalidWord, {"value": value}, call, value)

    def test_first_values(self):
        chance = random.Random(8)
        for field in FIELDS:
            for order in (Order("ab"), Order("ab", b=3), Order("ab", a=9, b=2), Order("ab", a=6, b=4)):
                machine = random_machine(field, "ab", 3, chance)
                words = list(itertools.islice(order.words(), 60))
                for many in (0, 1, 2, 7, 60):
                    values = [machine.value_of(word) for word in words[:many]]
                    self.assert_same(machine.first_values(order, many), values)
            self.assert_same(Machine.zero(field, "ab").first_values(Order("ab"), 5), [0] * 5)
        self.assertEqual(1000, len(counts_machine().first_values(Order("ab"), 1000)))
        self.assertEqual([0, 1, 0], counts_machine().first_values(many=3, order=Order("ab")))

    def test_first_values_of_long_words(self):
        machine = Machine(Modulo(7), "a", [1], {"a": [[3]]}, [1])
        self.assertEqual([pow(3, power, 7) for power in range(1000)], machine.first_values(Order("a", a=9), 1000))

    def test_first_values_errors(self):
        machine = counts_machine()
        for value in any_values() + [1001]:
            if is_plain_integer(value) and 0 <= value <= 1000:
                self.assertEqual(value, len(machine.first_values(Order("ab"), value)))
            else:
                self.assert_raises(InvalidCount, {"value": value}, machine.first_values, Order("ab"), value)
            for order in (Order("a"), Order("abc"), Order("bc")):
                self.assert_raises(OtherLetters, {}, machine.first_values, order, value)


class NewMachineTests(Checks, unittest.TestCase):
    def pairs(self, sizes):
        chance = random.Random(9)
        for field in FIELDS:
            for one, other in sizes:
                yield field, random_machine(field, "ab", one, chance), random_machine(field, "ab", other, chance)

    def assert_values(self, machine, size, table):
        """That a machine has so many states and these plain values."""
        self.assertIs(type(machine), Machine)
        self.assert_same(machine.size, size)
        for word, value in table.items():
            self.assert_same(machine.value_of(word), kept(machine.field, value))

    def test_sums_differences_and_products(self):
        for field, one, other in self.pairs([(0, 0), (0, 2), (1, 0), (1, 1), (2, 3), (4, 6), (12, 2), (24, 1), (24, 0)]):
            words = all_words("ab", 3)
            left, right = [{word: plain_value(machine, word) for word in words} for machine in (one, other)]
            if one.size + other.size <= 24:
                self.assert_values(one + other, one.size + other.size, {word: left[word] + right[word] for word in words})
                self.assert_values(one - other, one.size + other.size, {word: left[word] - right[word] for word in words})
            self.assert_values(one * other, one.size * other.size, {word: left[word] * right[word] for word in words})

    def test_followed(self):
        for field, one, other in self.pairs([(0, 0), (0, 2), (1, 0), (1, 1), (2, 3), (12, 12)]):
            table = {}
            for word in all_words("ab", 4):
                table[word] = sum(plain_value(one, word[:at]) * plain_value(other, word[at:]) for at in range(len(word) + 1))
            self.assert_values(one.followed(other), one.size + other.size, table)
            self.assert_values(one.followed(other=other), one.size + other.size, table)

    def test_partner_errors(self):
        chance = random.Random(10)
        large = random_machine(Modulo(7), "ab", 24, chance)
        calls = {
            "sum": lambda one, other: one + other, "difference": lambda one, other: one - other,
            "product": lambda one, other: one * other, "followed": lambda one, other: one.followed(other),
        }
        for call in calls.values():
            self.assert_raises(OtherField, {}, call, large, random_machine(Modulo(5), "a", 24, chance))
            self.assert_raises(OtherField, {}, call, large, random_machine(Fractions(), "ab", 2, chance))
            self.assert_raises(OtherLetters, {}, call, large, random_machine(Modulo(7), "a", 24, chance))
            self.assert_raises(OtherLetters, {}, call, large, random_machine(Modulo(7), "abc", 2, chance))
            self.assert_raises(TooMany, {"limit": 24}, call, large, random_machine(Modulo(7), "ab", 2, chance))
        one, five, six = [random_machine(Modulo(7), "ab", size, chance) for size in (1, 5, 6)]
        self.assert_raises(TooMany, {"limit": 24}, calls["product"], five, five)
        self.assertEqual(24, (large * one).size)
        self.assertEqual(0, (large * Machine.zero(Modulo(7), "ab")).size)
        self.assertEqual(24, (large + Machine.zero(Modulo(7), "ab")).size)
        for name in ("sum", "difference", "followed"):
            self.assert_raises(TooMany, {"limit": 24}, calls[name], large, one)
            self.assertEqual(11, calls[name](five, six).size)

    def test_scaled(self):
        for field, one, _ in self.pairs([(0, 0), (1, 0), (3, 0), (24, 0)]):
            for number in [0, 1, random_number(field, random.Random(11))]:
                table = {word: plain_value(one, word) * plain(field, number) for word in all_words("ab", 3)}
                self.assert_values(one.scaled(number=number), one.size, table)
        self.assert_same(counts_machine().scaled((1, 2)).value_of("aa"), 1)
        for field in (Fractions(), Modulo(7)):
            for value in any_values():
                machine = Machine.constant(field, "ab", 1)
                if field.is_number(value):
                    self.assert_same(machine.scaled(value).value_of("a"), value)
                else:
                    self.assert_raises(InvalidNumber, {"value": value}, machine.scaled, value)

    def test_turned_behind_ahead(self):
        for field, one, _ in self.pairs([(0, 0), (1, 0), (3, 0), (8, 0)]):
            words = all_words("ab", 3)
            self.assert_values(one.turned(), one.size, {word: plain_value(one, word[::-1]) for word in words})
            for word in ("", "a", "b", "ab", "bba"):
                self.assert_values(one.behind(word=word), one.size, {each: plain_value(one, word + each) for each in words})
                self.assert_values(one.ahead(word=word), one.size, {each: plain_value(one, each + word) for each in words})
        one = random_machine(Modulo(7), "ab", 3, random.Random(12))
        long = "ab" * 80
        self.assertEqual(one.behind(long).value_of(long), one.ahead(long).value_of(long))
        self.assertEqual(one, one.turned().turned())

    def test_read_as(self):
        for field, one, _ in self.pairs([(0, 0), (1, 0), (3, 0)]):
            for table in ({"a": "b", "b": "a"}, {"c": ""}, {"z": "abb", "p": "", "q": "a", "a": "ba"}):
                read = one.read_as(**table)
                self.assertEqual("".join(sorted(table)), read.letters)
                values = {}
                for word in all_words(sorted(table), 3):
                    values[word] = plain_value(one, "".join(table[letter] for letter in word))
                self.assert_values(read, one.size, values)
        one = random_machine(Modulo(7), "ab", 3, random.Random(13))
        long = "abb" * 53 + "a"
        self.assertEqual(one.value_of(long), one.read_as(x=long).value_of("x"))

    def test_read_as_errors(self):
        machine = counts_machine()
        self.assert_raises(InvalidLetters, {"value": []}, machine.read_as)
        self.assert_raises(InvalidLetters, {"value": list("abcde")}, machine.read_as, **dict.fromkeys("edcba", "a"))
        for names in (["ab"], ["a", "bc"], ["A"], ["A", "b"], ["", "a"], ["_", "a"], ["aa", "b"], ["ab", "cd"], ["word", "x"]):
            table = {name: None for name in reversed(names)}
            self.assert_raises(InvalidLetters, {"value": names}, machine.read_as, **table)
        self.assert_raises(InvalidWord, {"value": 1}, machine.read_as, z=2, c="a", b=1)
        self.assert_raises(InvalidWord, {"value": "c"}, machine.read_as, c="c")
        self.assert_raises(InvalidWord, {"value": "a" * 161}, machine.read_as, c="a" * 161)
        for value in any_values():
            if is_word(value, "ab"):
                self.assertEqual(value.count("a"), machine.read_as(q=value).value_of("q"))
            else:
                self.assert_raises(InvalidWord, {"value": value}, machine.read_as, q=value)

    def test_reduced(self):
        machine = Machine(Fractions(), "ab", [(1, 2), -1], {"a": [[3, (4, 5)], [0, 10]], "b": [[(-2, 3), 7], [8, 9]]}, [1, 6])
        small = machine.reduced(prime=7)
        self.assertEqual(Machine(Modulo(7), "ab", [4, 6], {"a": [[3, 5], [0, 3]], "b": [[4, 0], [1, 2]]}, [1, 6]), small)
        for word in all_words("ab", 3):
            value = plain_value(machine, word)
            self.assertEqual(value.numerator * pow(value.denominator, -1, 7) % 7, small.value_of(word))
        for prime in (2, 3, 5):
            self.assert_raises(NoQuotient, {}, machine.reduced, prime)
        for value in any_values():
            self.assert_raises(OtherField, {}, small.reduced, value)
            if value not in (2, 5, 7) or not is_plain_integer(value):
                self.assert_raises(InvalidPrime, {"value": value}, machine.reduced, value)
        self.assertEqual(Machine.zero(Modulo(2), "ab"), Machine.zero(Fractions(), "ab").reduced(2))
        for part in range(3):
            rows = [[1], [1], [1]]
            rows[part] = [(1, 3)]
            self.assert_raises(NoQuotient, {}, Machine(Fractions(), "a", rows[0], {"a": [rows[1]]}, rows[2]).reduced, 3)

    def test_numbers_of_any_size(self):
        number = 10 ** 99
        machine = Machine(Fractions(), "a", [number], {"a": [[(1, number)]]}, [number])
        product = machine * machine * machine
        self.assertEqual(number ** 3, product.start[0])
        self.assertEqual(number ** 4, product.behind("a").scaled(number).turned().value_of(""))
        self.assertEqual(number ** 3 % 7 * (number ** 3) % 7, product.reduced(7).value_of(""))
        self.assertEqual(2 * number ** 6, (product + product).value_of(""))
        self.assertEqual(0, (product - product).value_of("a"))
        self.assertEqual(number ** 12, product.followed(product).value_of(""))

    def test_class_methods(self):
        for field in FIELDS:
            zero = Machine.zero(letters="abc", field=field)
            self.assertEqual(Machine(field, "abc", [], {"a": [], "b": [], "c": []}, []), zero)
            constant = Machine.constant(number=1, letters="ab", field=field)
            self.assert_values(constant, 1, {word: 1 for word in all_words("ab", 4)})
            for word in ("", "a", "b", "ab", "aab", "bbbb"):
                machine = Machine.of_word(word=word, letters="ab", field=field)
                self.assert_values(machine, len(word) + 1, {each: int(each == word) for each in all_words("ab", 5)})
        self.assert_values(Machine.constant(Fractions(), "ab", (-1, 2)), 1, {word: Fraction(-1, 2) for word in ("", "ab")})

    def test_class_method_errors(self):
        for field in (Fractions(), Modulo(7)):
            for value in any_values():
                if field.is_number(value):
                    self.assertEqual(value, Machine.constant(field, "ab", value).value_of("ba"))
                else:
                    self.assert_raises(InvalidNumber, {"value": value}, Machine.constant, field, "ab", value)
                if not is_word(value, "ab"):
                    self.assert_raises(InvalidWord, {"value": value}, Machine.of_word, field, "ab", value)
                elif len(value) > 23:
                    self.assert_raises(TooMany, {"limit": 24}, Machine.of_word, field, "ab", value)
                else:
                    self.assertEqual(1, Machine.of_word(field, "ab", value).value_of(value))
            self.assertEqual(24, Machine.of_word(field, "ab", "ab" * 11 + "a").size)
            self.assert_raises(TooMany, {"limit": 24}, Machine.of_word, field, "ab", "ab" * 12)

    def test_nothing_changes(self):
        one, other = counts_machine(), counts_machine()
        for call in (lambda: one + Machine.zero(Modulo(2), "ab"), lambda: one.scaled(None), lambda: one.behind("c"),
                     lambda: one.read_as(c="c"), lambda: one.reduced(4), lambda: one.first_values(Order("ab"), -1)):
            with self.assertRaises(ValueError):
                call()
        one + other, one * other, one - other, one.followed(other), one.turned(), one.scaled(5)
        self.assertEqual(counts_machine(), one)
        self.assertEqual(counts_machine(), other)

    def test_example(self):
        counts, order = counts_machine(), Order("ab")
        self.assertEqual([0, 1, 0, 2, 1, 1, 0], counts.first_values(order, 7))
        self.assertEqual(4, (counts * counts).value_of("aba"))


class RingTests(Checks, unittest.TestCase):
    def test_against_plain_words(self):
        chance = random.Random(14)
        for field in FIELDS:
            for size in (0, 1, 3):
                machine = random_machine(field, "ab", size, chance)
                for front, ring, back in (("", "", ""), ("a", "b", "a"), ("ab", "aab", ""), ("", "ba", "bb")):
                    for times in (0, 1, 2, 3, 4, 5, 17):
                        value = kept(field, plain_value(machine, front + ring * times + back))
                        self.assert_same(machine.ring_value(front, ring, times, back), value)

    def test_sixty_rings_of_fractions(self):
        machine = Machine(Fractions(), "ab", [1, (1, 2)], {"a": [[(1, 2), 1], [0, 2]], "b": [[1, 0], [(1, 3), 1]]}, [1, 1])
        value = kept(Fractions(), plain_value(machine, "b" + "ab" * 60 + "a"))
        self.assert_same(machine.ring_value(back="a", times=60, ring="ab", front="b"), value)
        long = machine.ring_value("ab" * 80, "ab" * 80, 60, "a" * 160)
        self.assertEqual(plain_value(machine, "ab" * 80 * 61 + "a" * 160), fraction_of(long))

    def test_very_many_rings(self):
        many = 10 ** 30
        machine = Machine(Modulo(101), "ab", [1, 0], {"a": [[1, 1], [0, 1]], "b": [[2, 0], [0, 3]]}, [0, 1])
        self.assert_same(machine.ring_value("", "a", many, ""), many % 101)
        self.assert_same(machine.ring_value("a", "b", many, ""), pow(3, many, 101))
        self.assert_same(machine.ring_value("", "", many, "aaa"), 3)
        self.assert_same(machine.ring_value("aa", "b", many - 1, "b"), 2 * pow(3, many, 101) % 101)
        self.assert_same(Machine.zero(Modulo(7), "ab").ring_value("a", "b" * 160, many, "a"), 0)
        large = random_machine(Modulo(999999937), "ab", 24, random.Random(15))
        half = large.ring_value("a" * 160, "ab" * 80, many, "b" * 160)
        turned = large.turned().ring_value("b" * 160, "ba" * 80, many, "a" * 160)
        self.assertEqual(half, turned)
        square = large.read_as(a="aa", b="ab")
        self.assertEqual(large.ring_value("", "a", 2 * 10 ** 20, ""), square.ring_value("", "a", 10 ** 20, ""))

    def test_errors(self):
        over_fractions, over_prime = counts_machine(), counts_machine().reduced(7)
        for machine in (over_fractions, over_prime):
            for value in any_values():
                if not is_word(value, "ab"):
                    self.assert_raises(InvalidWord, {"value": value}, machine.ring_value, value, None, None, None)
                    self.assert_raises(InvalidWord, {"value": value}, machine.ring_value, "a", value, None, None)
                    self.assert_raises(InvalidWord, {"value": value}, machine.ring_value, "a", "b", None, value)
                if not is_plain_integer(value) or value < 0 or value > 10 ** 30:
                    self.assert_raises(InvalidCount, {"value": value}, machine.ring_value, "a", "b", value, "")
        for value in (61, 10 ** 30):
            self.assert_raises(InvalidCount, {"value": value}, over_fractions.ring_value, "a", "b", value, "")
            self.assert_raises(InvalidCount, {"value": value}, Machine.zero(Fractions(), "ab").ring_value, "a", "b", value, "")
        self.assertEqual(1, over_fractions.ring_value("a", "b", 60, ""))
        self.assert_raises(InvalidCount, {"value": 10 ** 30 + 1}, over_prime.ring_value, "a", "b", 10 ** 30 + 1, "")


if __name__ == "__main__":
    unittest.main()
