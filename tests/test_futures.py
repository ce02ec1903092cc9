import functools
import itertools
import random
import unittest

from firstanswers.answers import Answers
from firstanswers.errors import InvalidCount, InvalidWord, NotFinite, OtherLetters, TooMany, TooSmall
from firstanswers.fields import Fractions, Modulo
from firstanswers.futures import enough, is_open, last_open, late_machine, latest_needed, open_words, other_machine
from firstanswers.futures import other_size, within
from firstanswers.least import LOOKED_THROUGH, is_alike, is_normal, least, size_of
from firstanswers.machines import Machine
from firstanswers.orders import Order
from firstanswers.spaces import Space
from plain import FIELDS, all_machines, first_listed, random_machine, random_number
from support import Checks, all_words, any_values, is_plain_integer, is_word
from test_answers import random_answers
from test_least import counts_machine

MODULO_2, MODULO_3, MODULO_7 = Modulo(2), Modulo(3), Modulo(7)
# A field, an order and a number of states, of which all machines can be looked at.
SMALL = [
    (MODULO_2, Order("a"), 3), (MODULO_3, Order("a", a=4), 2), (MODULO_2, Order("ab"), 2), (MODULO_2, Order("ab", a=2), 2),
    (MODULO_3, Order("ab", b=3), 1), (MODULO_2, Order("abc", b=2), 1), (MODULO_2, Order("a"), 0), (MODULO_3, Order("ab"), 0),
]


@functools.cache
def small_series():
    """For each of the small kinds: field, order, bound and series."""
    return [(field, order, most, all_series(field, order, most)) for field, order, most in SMALL]


def all_series(field, order, most):
    """From the first values, enough of them to tell any two apart, to the machine with the fewest states."""
    many = order.number_of(order.latest * (2 * most - 1)) + 1 if most else 1
    series = {}
    for size in range(most + 1):
        for machine in all_machines(field, order.letters, size):
            series.setdefault(tuple(machine.first_values(order, many)), machine)
    return series


def common_count(one, other):
    """How many first values two series have in common."""
    return next(at for at, (x, y) in enumerate(zip(one, other)) if x != y)


def some_orders(letters, chance):
    return Order.of_costs({letter: chance.choice([1, 1, 2, 3]) for letter in letters})


def some_taught(seed, many, most_needed):
    """Machines of several kinds over several fields, with an order and a bound that is not below their least size."""
    chance = random.Random(seed)
    found = 0
    while found < many:
        field, letters = chance.choice([MODULO_2, MODULO_3, Fractions(), Modulo(999999937)]), chance.choice(["a", "ab", "abc"])
        order = some_orders(letters, chance)
        kind = chance.choice(["any", "any", "word", "sum", "zero"])
        machine = random_machine(field, letters, chance.randint(0, 4), chance)
        if kind == "word":
            machine = Machine.of_word(field, letters, "".join(chance.choices(letters, k=chance.randint(0, 3))))
        elif kind == "sum":
            small = random_machine(field, letters, 2, chance)
            machine = small + small.behind(letters[-1])
        elif kind == "zero":
            machine = Machine.zero(field, letters)
        most = size_of(machine) + chance.choice([0, 0, 1, 2])
        if latest_needed(order, most) <= most_needed:
            found += 1
            yield machine, order, most


def plain_open(machine, order, most, many):
    """The open words up to the one with this number, by the answers to all words before each."""
    found = []
    for count, word in enumerate(first_listed(order, many + 1)):
        answers = Answers.of(machine, order, count)
        forced = answers.forced()
        if answers.size + (forced[1] if forced else 0) <= most:
            found.append(word)
    return found


class OtherTests(Checks, unittest.TestCase):
    def test_against_all_machines(self):
        for field, order, most, series in small_series():
            sizes = {values: machine.size for values, machine in series.items()}
            for values in list(series)[::3]:
                for count in range(len(values) + 1):
                    answers = Answers(field, order, *values[:count])
                    form = tuple(Space(answers).form().first_values(order, len(values)))
                    others = [sizes[each] for each in series if each[:count] == values[:count] and each != form]
                    found = other_size(answers=answers)
                    if others:
                        self.assert_same(found, min(others))
                    else:
                        self.assertGreater(found, most)
                    self.assertEqual(found == answers.size, Space(answers).dimension > 0)

    def test_against_size_with_of_the_answers_behind(self):
        chance = random.Random(3)
        for field, order, longest in ((MODULO_2, Order("a"), 60), (MODULO_3, Order("ab"), 70), (Fractions(), Order("ab", b=2), 40),
                                      (Fractions(), Order("a"), 30), (Modulo(7), Order("ab", a=3), 120)):
            for size in (0, 1, 2, 3):
                machine = random_machine(field, order.letters, size, chance)
                for count in (0, 1, 2, 5, 9, 14):
                    answers = Answers.of(machine, order, count)
                    form, sizes = Space(answers).form(), [answers.size] if Space(answers).dimension else []
                    for behind in range(count, longest):
                        known = Answers.of(form, order, behind)
                        number = form.value_of(known.next_word)
                        sizes.append(known.size_with(0 if number != 0 else 1))
                    self.assert_same(other_size(answers), min(sizes))

    def test_other_machines(self):
        kinds = {True: 0, False: 0}
        for answers, order, _, _ in itertools.chain(random_answers(4, 200, 14), self.taught(5)):
            size, space = other_size(answers), Space(answers)
            kinds[space.dimension > 0] += 1
            if size > 24:
                self.assert_raises(TooMany, {"limit": 24}, other_machine, answers)
                continue
            machine = other_machine(answers=answers)
            self.assertEqual([size, size], [machine.size, size_of(machine)])
            self.assertTrue(answers.agrees(machine))
            self.assertFalse(is_alike(machine, space.form()))
            if size <= 4 and order.letters != "abcd":
                # All its numbers are numbers of the field.
                self.assertTrue(is_normal(least(machine, order), order))
        self.assertGreater(min(kinds.values()), 50)

    def taught(self, seed):
        """Answers that leave a single series, and some of them more than they need."""
        for machine, order, most in some_taught(seed, 150, 60):
            for more in (0, 3, 20):
                many = min(latest_needed(order, most) + more, 60)
                yield Answers.of(machine, order, many), order, None, None

    def test_great_fractions(self):
        number = 10 ** 99 + 7
        for values in ([number], [0, number, (1, number), 1], [(number, 3), 1, 0, 0, 0, number]):
            for order in (Order("a"), Order("ab", a=2)):
                answers = Answers(Fractions(), order, *values)
                many = latest_needed(order, answers.size)
                for each in (answers, Answers.of(Space(answers).form(), order, min(many, 60))):
                    machine = other_machine(each)
                    self.assertTrue(each.agrees(machine))
                    self.assertFalse(is_alike(machine, Space(each).form()))
                    self.assertEqual(other_size(each), size_of(machine))

    def test_24_states_and_beyond(self):
        for field in FIELDS:
            for many in (0, 1, 22, 23, 24, 40, 59, 60):
                answers = Answers(field, Order("a"), *[0] * many)
                self.assert_same(other_size(answers), many + 1)
                if many < 24:
                    self.assertEqual(many + 1, other_machine(answers).size)
                else:
                    self.assert_raises(TooMany, {"limit": 24}, other_machine, answers)
            for many in (24, 25, 60):
                # The last answer alone is not 0: as many states, and free pairs.
                answers = Answers(field, Order("a"), *[0] * (many - 1), 1)
                self.assert_same(other_size(answers), many)
                if many == 24:
                    machine = other_machine(answers)
                    self.assertEqual([24, True], [machine.size, answers.agrees(machine)])
                    self.assertFalse(is_alike(machine, Space(answers).form()))
                else:
                    self.assert_raises(TooMany, {"limit": 24}, other_machine, answers)
            # No free pairs, with more than 24 states.
            answers = Answers(field, Order("a"), *[0] * 29, 1, *[0] * 30)
            self.assertEqual([30, 0], [answers.size, Space(answers).dimension])
            self.assert_same(other_size(answers), 31)
            self.assert_raises(TooMany, {"limit": 24}, other_machine, answers)
        answers = Answers(MODULO_2, Order("a"), *[0] * 150)
        self.assert_same(other_size(answers), 151)

    def test_other_letters_that_cost_much(self):
        answers = Answers(MODULO_2, Order("abcd", d=9), *[0] * 150)
        self.assert_same(other_size(answers), 2)
        machine = other_machine(answers)
        self.assertTrue(answers.agrees(machine) and machine.size == 2 and size_of(machine) == 2)

    def test_example(self):
        counts, order = counts_machine(), Order("ab")
        self.assert_same([other_size(Answers.of(counts, order, 9)), other_size(Answers.of(counts, order, 10))], [2, 3])
        self.assert_same(other_size(Answers(Fractions(), Order("ab", b=9), 0, 0, 0, 0, 0, 0, 0, 0, 0)), 2)
        other = other_machine(Answers.of(counts, order, 9))
        self.assertEqual([2, "aba"], [other.size, next(word for word in order.words() if other.value_of(word) != counts.value_of(word))])


class OpenTests(Checks, unittest.TestCase):
    def test_against_the_answers_before(self):
        for machine, order, most in some_taught(1, 120, 55):
            found = plain_open(machine, order, most, latest_needed(order, most) + 4)
            self.assert_same(list(open_words(machine, order, most)), found)
            self.assert_same(last_open(machine, order, most), found[-1] if found else None)
            for word in first_listed(order, latest_needed(order, most) + 5):
                self.assertIs(is_open(machine, order, word, most), word in found)

    def test_against_all_machines(self):
        for field, order, most, series in small_series():
            words = first_listed(order, len(next(iter(series))))
            for values, machine in list(series.items())[::4]:
                counts = {common_count(values, other) for other in series if other != values}
                found = [words[count] for count in sorted(counts)]
                self.assert_same(list(open_words(machine=machine, order=order, most=most)), found)
                self.assert_same(last_open(order=order, most=most, machine=machine), found[-1] if found else None)

    def test_numbers_that_a_prime_divides(self):
        # Modulo the prime that the program looks through, the first rows would have other columns.
        prime = LOOKED_THROUGH
        for ends in ([prime, 1, 0], [0, prime, 1], [1, prime, 2 * prime], [prime, 0, prime], [(1, prime), 1, prime]):
            for row in ([0, 0, 0], [1, prime, 0], [prime, 1, 2]):
                machine = Machine(Fractions(), "ab", [1, 0, 0], {"a": [[0, 1, 0], [0, 0, 1], row], "b": [[0] * 3] * 3}, ends)
                for order in (Order("ab", b=9), Order("ab")):
                    for most in (size_of(machine), 3):
                        many = min(latest_needed(order, most), 60)
                        words = plain_open(machine, order, most, many)
                        found = [word for word in open_words(machine, order, most) if order.number_of(word) <= many]
                        self.assert_same(found, words)

    def test_alike_machines(self):
        chance = random.Random(2)
        for field in FIELDS:
            small = random_machine(field, "ab", 3, chance)
            for machine in (small + Machine.constant(field, "ab", 0), small * Machine.constant(field, "ab", 1), small + small.scaled(0)):
                self.assertEqual(list(open_words(small, Order("ab"), 3)), list(open_words(machine, Order("ab"), 3)))

    def test_long_words(self):
        counts, order = counts_machine(), Order("ab")
        self.assertIs(is_open(counts, order, "a" * 160, 100), False)
        self.assertIs(is_open(counts, order, "", 2), True)
        self.assert_raises(InvalidWord, {"value": "a" * 161}, is_open, counts, order, "a" * 161, 100)
        for field in FIELDS:
            machine = Machine.of_word(field, "abc", "a" * 23)
            # The last open word of all: a first row, 77 letters between, and a first column.
            longest = "a" * 23 + "c" * 77 + "a" * 23
            self.assertEqual(longest, last_open(machine, Order("abc"), 100))
            self.assertIs(is_open(machine, Order("abc"), longest, 100), True)
            self.assertIs(is_open(machine, Order("abc"), longest, 99), False)
            self.assertIs(is_open(machine, Order("abc"), longest + "a", 100), False)
            self.assertIs(is_open(machine, Order("abc"), "b" + longest[1:], 100), False)
            self.assertIs(is_open(machine, Order("abc"), "abc" * 53 + "b", 100), False)
            self.assertIs(is_open(Machine.zero(field, "abc"), Order("abc", a=7), "abc" * 33, 100), True)
            self.assertIs(is_open(Machine.zero(field, "abc"), Order("abc", a=7), "abc" * 33 + "a", 100), False)

    def test_very_many(self):
        for field in (MODULO_2, Fractions()):
            for order in (Order("abcd"), Order("abcd", a=9, c=2), Order("abcd", a=9, b=9, c=9, d=9)):
                for machine in (Machine.zero(field, "abcd"), Machine.of_word(field, "abcd", "d" * 23),
                                random_machine(field, "abcd", 12, random.Random(4))):
                    first = list(itertools.islice(open_words(machine, order, 100), 400))
                    self.assertEqual([word for word, _ in zip(order.words(), range(400))], first)

    def test_few_among_very_many(self):
        # What a word with b is worth is 0: only few of the very many words are open.
        chance = random.Random(6)
        field, order = Modulo(999999937), Order("ab", b=9)
        table = random_machine(field, "a", 12, chance).tables["a"]
        start, ends = [[random_number(field, chance) for _ in range(12)] for _ in range(2)]
        machine = Machine(field, "ab", start, {"a": table, "b": [[0] * 12] * 12}, ends)
        found = list(open_words(machine, order, 12))
        self.assertEqual(last_open(machine, order, 12), found[-1])
        self.assertEqual("a" * 11 + "b" + "a" * 11, found[-1])
        self.assertEqual(sorted(found, key=lambda word: (order.cost(word), word)), found)
        for word in found[::7]:
            self.assertIs(is_open(machine, order, word, 12), True)
        for number in range(0, 2000, 9):
            word = order.word_at(number)
            self.assertIs(is_open(machine, order, word, 12), word in found)
        for _ in range(150):
            word = "".join(chance.choices("aaab", k=chance.randint(0, 24)))
            self.assertIs(is_open(machine, order, word, 12), word in found)

    def test_some_more_states(self):
        chance = random.Random(8)
        for size, longest, many in ((4, 7, 10), (5, 9, 2)):
            for _ in range(many):
                field, order = chance.choice([MODULO_2, Modulo(5)]), some_orders("ab", chance)
                machine = Machine.zero(field, "ab")
                while size_of(machine) < size:
                    machine = random_machine(field, "ab", size, chance)
                words = [word for word in all_words("ab", longest) if is_open(machine, order, word, size)]
                self.assert_same(list(open_words(machine, order, size)), order.sorted_words(*words))

    def test_all_of_24_states(self):
        chance = random.Random(9)
        for costs in ({}, {"a": 9, "b": 9, "c": 9, "d": 9}, {"a": 9, "b": 6, "d": 3}, {"d": 8}):
            order = Order("abcd", **costs)
            machine = random_machine(Modulo(999999937), "abcd", 24, chance)
            found = list(open_words(machine, order, 24))
            self.assertEqual(found, order.sorted_words(*found))
            self.assertEqual(last_open(machine, order, 24), found[-1])
            for word in chance.sample(found, 20):
                self.assertIs(is_open(machine, order, word, 24), True)

    def test_in_turn_and_left_early(self):
        counts, order = counts_machine(), Order("ab")
        whole = list(open_words(counts, order, 4))
        one, other = open_words(counts, order, 4), open_words(counts, order, 4)
        found = ([], [])
        for at in range(len(whole)):
            found[0].append(next(one))
            if at % 2:
                found[1].append(next(other))
        self.assertEqual(whole, found[0])
        self.assertEqual(whole, found[1] + list(other))
        self.assertEqual([], list(one))
        for word in open_words(counts, order, 100):
            if len(word) > 3:
                break
        self.assertEqual("aaaa", word)
        self.assertEqual(whole, list(open_words(counts, order, 4)))

    def test_no_states(self):
        for field in FIELDS:
            for order in (Order("ab"), Order("ab", a=9), Order("abcd", b=2, c=2)):
                zero = Machine.constant(field, order.letters, 0)
                self.assertIsNone(last_open(zero, order, 0))
                self.assertEqual([], list(open_words(zero, order, 0)))
                self.assertIs(is_open(zero, order, "", 0), False)
                self.assert_same(enough(zero, order, 0), 0)
                for most in (1, 2, 3):
                    self.assert_same(last_open(zero, order, most), order.latest * (most - 1))
                    words = [word for word in first_listed(order, latest_needed(order, most)) if len(word) < most]
                    self.assert_same(list(open_words(zero, order, most)), words)

    def test_errors(self):
        counts, zero, order = counts_machine(), Machine.zero(Fractions(), "ab"), Order("ab")
        calls = (lambda *values: is_open(*values[:2], None, values[2]), lambda *values: next(open_words(*values), 0),
                 last_open, enough)
        for call in calls:
            self.assert_raises(OtherLetters, {}, call, counts, Order("abc"), None)
            self.assert_raises(InvalidCount, {"value": 101}, call, counts, order, 101)
            self.assert_raises(TooSmall, {"least_size": 2}, call, counts, order, 1)
            self.assert_raises(TooSmall, {"least_size": 3}, call, counts * counts, order, 0)
            for value in any_values() + [99, 100, 101]:
                if is_plain_integer(value) and 0 <= value <= 100:
                    if call != calls[0]:
                        call(zero, order, value)
                else:
                    self.assert_raises(InvalidCount, {"value": value}, call, counts, order, value)
        for value in any_values():
            if is_word(value, "ab"):
                self.assertIs(is_open(zero, order, value, 3), len(value) < 3)
            else:
                self.assert_raises(InvalidWord, {"value": value}, is_open, counts, order, value, 2)
            self.assert_raises(TooSmall, {"least_size": 2}, is_open, counts, order, value, 1)


class EnoughTests(Checks, unittest.TestCase):
    def test_against_all_machines(self):
        for field, order, most, series in small_series():
            greatest = 0
            for values, machine in list(series.items())[::2]:
                # No other series has so many values in common, and one has one fewer.
                most_common = max([common_count(values, other) + 1 for other in series if other != values], default=0)
                self.assert_same(enough(machine, order, most), most_common)
                greatest = max(greatest, most_common)
            self.assertLessEqual(greatest, latest_needed(order, most))
            for machine in series.values():
                greatest = max(greatest, enough(most=most, order=order, machine=machine))
            self.assert_same(latest_needed(order, most), greatest)

    def test_number_of_the_last_open_word(self):
        for machine, order, most in some_taught(8, 80, 2000):
            last = last_open(machine, order, most)
            self.assert_same(enough(machine, order, most), 0 if last is None else order.number_of(last) + 1)

    def test_greater_bounds(self):
        for order in (Order("a"), Order("ab"), Order("ab", a=3), Order("abcd", a=9, b=2)):
            for most in (1, 2, 24, 80):
                self.assert_same(latest_needed(order, most), order.number_of(order.latest * (2 * most - 1)) + 1)
            self.assert_same(latest_needed(order, 0), 0)
        self.assert_same(latest_needed(Order("a", a=3), 100), 200)
        self.assert_same(latest_needed(Order("ab"), 100), 2 ** 200 - 1)
        self.assert_same(latest_needed(most=100, order=Order("abcd")), (4 ** 200 - 1) // 3)
        # The words up to b * 199 with costs 1 and 2: sums of Fibonacci numbers.
        counts = [1, 1]
        while len(counts) < 399:
            counts.append(counts[-1] + counts[-2])
        self.assert_same(latest_needed(Order("ab", b=2), 100), sum(counts))
        for machine in (Machine.zero(Fractions(), "ab"), counts_machine()):
            last = last_open(machine, Order("ab", a=9), 100)
            self.assert_same(enough(machine, Order("ab", a=9), 100), Order("ab", a=9).number_of(last) + 1)

    def test_late_machines(self):
        for field in (Fractions(), MODULO_2, Modulo(999999937)):
            for order in (Order("a"), Order("ab"), Order("ab", a=2), Order("abcd", b=9, c=9)):
                for most in range(25):
                    machine = late_machine(field, order, most)
                    self.assertEqual([field, order.letters], [machine.field, machine.letters])
                    self.assertLessEqual(machine.size, most)
                    self.assert_same(enough(machine, order, most), latest_needed(order, most))
        self.assertEqual(late_machine(MODULO_2, Order("a"), 3), late_machine(most=3, order=Order("a"), field=MODULO_2))

    def test_counts(self):
        for value in any_values() + [24, 25, 100, 101]:
            for call, most in ((lambda value: late_machine(MODULO_3, Order("ab"), value), 24),
                               (lambda value: latest_needed(Order("ab"), value), 100)):
                if is_plain_integer(value) and 0 <= value <= most:
                    call(value)
                else:
                    self.assert_raises(InvalidCount, {"value": value}, call, value)


class WithinTests(Checks, unittest.TestCase):
    def test_against_all_machines(self):
        chance = random.Random(9)
        for field, order, most, series in small_series():
            tried = {()}
            for values in chance.choices(list(series), k=40):
                values = list(values[:chance.randint(0, len(values))])
                if values and chance.random() < 0.2:
                    values[-1] = (values[-1] + 1) % field.prime
                tried.add(tuple(values))
            for values in sorted(tried):
                agreeing = [each for each in sorted(series) if each[:len(values)] == values]
                found = within(answers=Answers(field, order, *values), most=most)
                self.assertEqual([least(series[each], order) for each in agreeing], found)

    def test_ascending_by_values(self):
        order = Order("ab", a=2)
        answers = Answers(MODULO_3, order, 0, 1, 2)
        found = within(answers, 2)
        many = latest_needed(order, 2)
        rows = [machine.first_values(order, many) for machine in found]
        self.assertEqual(sorted(rows), rows)
        self.assertGreater(len(rows), 3)
        for machine in found:
            self.assertTrue(answers.agrees(machine) and is_normal(machine, order) and machine.size <= 2)

    def test_more_answers_than_needed(self):
        machine = random_machine(MODULO_3, "ab", 2, random.Random(3))
        for many in (16, 100, 150):
            answers = Answers.of(machine, Order("ab"), many)
            self.assertEqual([least(machine, Order("ab"))], within(answers, 2))
            self.assertEqual([], within(answers, size_of(machine) - 1))

    def test_greater_sizes(self):
        machine = random_machine(Modulo(7), "a", 24, random.Random(5))
        for many, count in ((48, 1), (47, 7), (46, 49), (100, 1)):
            found = within(Answers.of(machine, Order("a"), many), 24)
            self.assertEqual(count, len(found))
            self.assertEqual(1, len([each for each in found if is_alike(each, machine)]))
        self.assertEqual([Machine.zero(MODULO_2, "ab")], within(Answers(MODULO_2, Order("ab"), 0, 0, 0), 0))
        self.assertEqual([], within(Answers(MODULO_2, Order("ab"), 0, 0, 1), 0))

    def test_300_and_more(self):
        # The first answer alone is not 0, and then 0 but for the last word before the bound: so many numbers are left.
        for prime, many in ((293, 293), (307, None), (2, 256), (999999937, None), (17, 289), (19, None)):
            machine = late_machine(Modulo(prime), Order("a"), 20)
            left = {256: 8, 289: 2}.get(many, 2 if prime == 19 else 1)
            answers = Answers.of(machine, Order("a"), 40 - left)
            if many is None:
                self.assert_raises(TooMany, {"limit": 300}, within, answers, 20)
            else:
                self.assertEqual(many, len(within(answers, 20)))
    def test_301(self):
        answers = Answers(MODULO_7, Order("a"), 5, 4, 4, 0, 1, 0, 0, 0, 1)
        self.assert_raises(TooMany, {"limit": 300}, within, answers, 6)
        # With one answer more, they are at most as many.
        counts = [len(within(answers.with_more(number), 6)) for number in range(7)]
        self.assertEqual(301, sum(counts))

    def test_200_and_201_words(self):
        order, other = Order("abcd", a=5, b=8, c=9, d=6), Order("abcd", b=7, d=5)
        self.assert_same([latest_needed(order, 2), latest_needed(other, 1)], [200, 201])
        machine = late_machine(MODULO_2, order, 2)
        answers = Answers.of(machine, order, 150)
        found = within(answers, 2)
        self.assertEqual([4, 1], [len(found), len([each for each in found if is_alike(each, machine)])])
        for one, two in itertools.combinations(found, 2):
            self.assertTrue(answers.agrees(one) and answers.agrees(two) and not is_alike(one, two))
        self.assert_raises(TooMany, {"limit": 200}, within, Answers(MODULO_2, other), 1)
        self.assertEqual([Machine.zero(MODULO_2, "abcd")], within(Answers(MODULO_2, other), 0))

    def test_errors(self):
        for value in any_values() + [24, 25]:
            self.assert_raises(NotFinite, {}, within, Answers(Fractions(), Order("ab"), 1), value)
            if is_plain_integer(value) and 0 <= value <= 24:
                self.assertEqual(min(value, 1), len(within(Answers.of(late_machine(MODULO_2, Order("a"), 1), Order("a"), 60), value)))
            else:
                self.assert_raises(InvalidCount, {"value": value}, within, Answers(MODULO_2, Order("abcd")), value)
        self.assert_raises(TooMany, {"limit": 200}, within, Answers(MODULO_2, Order("ab")), 4)
        self.assert_raises(TooMany, {"limit": 200}, within, Answers(MODULO_2, Order("ab"), *[1, 0] * 75), 24)
        self.assert_raises(TooMany, {"limit": 200}, within, Answers(Modulo(997), Order("ab"), 1), 4)
        self.assert_raises(TooMany, {"limit": 300}, within, Answers(Modulo(307), Order("ab"), 1), 3)
        self.assertEqual([], within(Answers(Modulo(307), Order("ab"), 0, 1), 1))


class ObjectTests(Checks, unittest.TestCase):
    def test_nothing_changes(self):
        answers = Answers(MODULO_2, Order("ab"), 0, 1)
        found = within(answers, 2)
        many = len(found)
        found.clear()
        self.assertEqual(many, len(within(answers, 2)))
        self.assertEqual(other_machine(answers), other_machine(answers))
        self.assertEqual([(0, 1), 2, "b"], [answers.numbers, answers.size, answers.next_word])
        words = list(open_words(counts_machine(), Order("ab"), 3))
        last = words[-1]
        words.clear()
        self.assertEqual(last, list(open_words(counts_machine(), Order("ab"), 3))[-1])

    def test_example(self):
        counts, order, field = counts_machine(), Order("ab"), Fractions()
        found = [last_open(counts, order, 2), enough(counts, order, 2), latest_needed(order, 2), enough(Machine.zero(field, "ab"), order, 2)]
        self.assert_same(found, ["aba", 10, 15, 3])
        self.assert_same(len(within(Answers(MODULO_2, Order("a")), 1)), 3)


if __name__ == "__main__":
    unittest.main()
