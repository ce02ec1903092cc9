import itertools
import random
import unittest

from firstanswers.answers import Answers
from firstanswers.errors import InvalidAnswer, InvalidCount, InvalidNumber, NotKnown, OtherField, OtherLetters, OutOfRange
from firstanswers.errors import TooMany
from firstanswers.fields import Fractions, Modulo
from firstanswers.machines import Machine
from firstanswers.orders import Order
from firstanswers.papers import bound_paper, rows_of
from firstanswers.spaces import Space
from plain import FIELDS, all_machines, first_listed, plain_basis, plain_forced, random_machine, random_number
from support import Checks, any_values, is_plain_integer

ORDERS = [Order("a"), Order("a", a=7), Order("ab"), Order("ab", b=2), Order("ab", a=3, b=2), Order("abc"), Order("abcd", b=9)]
SMALL_FIELDS = [Fractions(), Modulo(2), Modulo(3), Modulo(7)]


def random_values(field, order, many, chance):
    """Answers of some kinds: without a rule, mostly 0, and of a small machine, perhaps with a mistake."""
    kind = chance.choice(["any", "zero", "machine", "mistake"])
    if kind == "any":
        return [random_number(field, chance) for _ in range(many)]
    if kind == "zero":
        return [random_number(field, chance) if chance.random() < 0.2 else 0 for _ in range(many)]
    values = random_machine(field, order.letters, chance.randint(0, 3), chance).first_values(order, many)
    if kind == "mistake" and many > 0:
        values[chance.randrange(many)] = random_number(field, chance)
    return values


def random_answers(seed, many, most):
    """Answers of many kinds, with the order, the values and the first words, one more than there are values."""
    chance = random.Random(seed)
    for _ in range(many):
        field, order, count = chance.choice(SMALL_FIELDS), chance.choice(ORDERS), chance.randint(0, most)
        values = random_values(field, order, count, chance)
        yield Answers(field, order, *values), order, values, first_listed(order, count + 1)


class MakingTests(Checks, unittest.TestCase):
    def test_properties(self):
        for answers, order, values, words in random_answers(1, 60, 12):
            self.assertEqual(order, answers.order)
            self.assert_same(answers.numbers, tuple(values))
            self.assert_same(answers.next_word, words[-1])
            self.assert_same(len(answers), len(values))
            for word, value in zip(words, values):
                self.assertIs(word in answers, True)
                self.assert_same(answers[word], value)
            self.assertIs(words[-1] in answers, False)
            self.assert_raises(NotKnown, {"value": words[-1]}, lambda: answers[words[-1]])
            given = Answers.given(numbers=list(values), order=order, field=answers.field)
            self.assertEqual(given, answers)
            self.assertEqual(Answers.given(answers.field, order, tuple(values)), given)
            self.assertEqual(Answers(answers.field, order, *values).field, answers.field)

    def test_none(self):
        for field in FIELDS:
            none = Answers(field, Order("ab"))
            self.assertEqual([field, Order("ab"), (), "", 0], [none.field, none.order, none.numbers, none.next_word, len(none)])
            self.assertEqual([0, (), (), ("",)], [none.size, none.basis, none.columns, none.borders])
            self.assertEqual([(0, 1), (0,), []], [none.forced(), none.profile(), list(none.growths())])
            self.assertEqual(none, Answers.given(field, Order("ab"), []))
            self.assertEqual(none, Answers(order=Order("ab"), field=field))
            self.assertEqual([0, 1], [none.size_with(0), none.size_with(1)])
            self.assertFalse("" in none)

    def test_any_value_as_known_word(self):
        answers = Answers(Modulo(7), Order("ab"), 1, 2, 3, 4)
        for value in any_values():
            known = type(value) is str and value in ("", "a", "b", "aa")
            self.assertIs(value in answers, known)
            if known:
                self.assertEqual(["", "a", "b", "aa"].index(value) + 1, answers[value])
            else:
                self.assert_raises(NotKnown, {"value": value}, lambda: answers[value])
                self.assert_raises(NotKnown, {"value": value}, answers.corrected, value, None)

    def test_any_value_as_answer(self):
        for field in (Fractions(), Modulo(7)):
            for value in any_values():
                for before in (0, 1, 3):
                    values = [1, 2, 3][:before]
                    calls = [lambda: Answers(field, Order("ab"), *values, value, None),
                             lambda: Answers.given(field, Order("ab"), [*values, value, None]),
                             lambda: Answers(field, Order("ab"), *values).with_more(value, None)]
                    wrong = before + 1 if field.is_number(value) else before
                    for call in calls:
                        self.assert_raises(InvalidAnswer, {"number": wrong}, call)
                    if field.is_number(value):
                        made = Answers(field, Order("ab"), *values, value)
                        self.assert_same(made.numbers, (*values, value))
                        self.assertEqual(made, Answers(field, Order("ab"), *values).with_more(value))

    def test_150_and_151(self):
        chance = random.Random(2)
        for field, most in ((Modulo(2), 150), (Modulo(999999937), 150), (Fractions(), 60)):
            for order in (Order("a"), Order("ab", b=2), Order("abcd")):
                values = [random_number(field, chance) for _ in range(most)]
                full = Answers(field, order, *values)
                self.assertEqual(most, len(full))
                self.assertEqual(most + 1, len(full.profile()))
                self.assertEqual(full.size, rows_of(full, bound_paper(full)))
                for more in (1, 2, 200):
                    limit = {"limit": most}
                    self.assert_raises(TooMany, limit, Answers, field, order, *values, *[0] * more)
                    self.assert_raises(TooMany, limit, Answers.given, field, order, values + [0] * more)
                    self.assert_raises(TooMany, limit, full.with_more, *[0] * more)
                    self.assert_raises(InvalidAnswer, {"number": most + more - 1}, full.with_more, *[0] * (more - 1), None)
                    self.assert_raises(InvalidAnswer, {"number": 3}, Answers, field, order, 0, 0, 0, None, *values)
                self.assertEqual(full, full.with_more())
                # Behind the last answer that there may be, the next one is told, too.
                forced = full.forced()
                if forced is not None:
                    self.assertEqual(full.size, full.size_with(forced[0]))
                    self.assertEqual(full.size + forced[1], full.size_with(field.minus(1, 1) if forced[0] else 1))
                else:
                    self.assertEqual([full.size] * 2, [full.size_with(0), full.size_with(1)])

    def test_last_answer_alone(self):
        for field, most in ((Modulo(3), 150), (Fractions(), 60)):
            late = Answers(field, Order("a"), *[0] * (most - 1), 1)
            self.assertEqual(most, late.size)
            self.assertEqual(tuple("a" * at for at in range(most)), late.basis)
            self.assertEqual(tuple("a" * at for at in reversed(range(most))), late.columns)
            self.assertEqual(("a" * most,), late.borders)
            self.assertEqual((0,) * most + (most,), late.profile())
            self.assertIsNone(late.forced())
            self.assertEqual((0, most + 1), Answers(field, Order("a"), *[0] * most).forced())

    def test_equality(self):
        def some():
            return [Answers(Modulo(7), Order("ab"), 1, 2), Answers(Modulo(5), Order("ab"), 1, 2), Answers(Fractions(), Order("ab"), 1, 2),
                    Answers(Modulo(7), Order("a"), 1, 2), Answers(Modulo(7), Order("ab", b=2), 1, 2),
                    Answers(Modulo(7), Order("ab"), 1), Answers(Modulo(7), Order("ab"), 1, 3), Answers(Modulo(7), Order("ab"))]
        for one, other in itertools.product(range(8), repeat=2):
            self.assertIs(some()[one] == some()[other], one == other)
            self.assertIs(some()[one] != some()[other], one != other)
        for value in any_values():
            self.assertFalse(some()[0] == value)

    def test_copies(self):
        numbers = [1, 2, 3]
        answers = Answers.given(Modulo(7), Order("ab"), numbers)
        numbers[0] = 5
        numbers.append(6)
        self.assertEqual((1, 2, 3), answers.numbers)
        answers.mistakes(Machine.zero(Modulo(7), "ab")).clear()
        answers.with_more(1), answers.first(1), answers.corrected("a", 0), answers.in_order(Order("ab", b=3))
        with self.assertRaises(InvalidAnswer):
            answers.with_more(1, 2, 7)
        self.assertEqual(Answers(Modulo(7), Order("ab"), 1, 2, 3), answers)
        self.assertEqual([answers.size, answers.forced()], [answers.size, answers.forced()])


class SizeTests(Checks, unittest.TestCase):
    def test_basis_and_columns(self):
        for answers, order, values, words in random_answers(3, 1000, 13):
            basis, columns = plain_basis(answers.field, words[:-1], values)
            self.assert_same(answers.basis, basis)
            self.assert_same(answers.columns, columns)
            self.assert_same(answers.size, len(basis))
            self.assertEqual(len(columns), len(set(columns)))
            borders = [word + letter for word in basis for letter in order.letters if word + letter not in basis]
            self.assert_same(answers.borders, tuple(order.sorted_words(*borders)) if basis else ("",))

    def test_great_answers(self):
        chance = random.Random(4)
        for order in (Order("a"), Order("ab"), Order("ab", a=3)):
            for kind in ("any", "few", "rule"):
                numbers = [chance.choice([0, 1, 10 ** 99, (10 ** 99, 7), (-1, 10 ** 99 + 7)]) for _ in range(13)]
                if kind == "few":
                    numbers = [chance.choice([0, 10 ** 99, (1, 10 ** 99)]) for _ in range(13)]
                elif kind == "rule":
                    numbers = [10 ** 99 - at for at in range(13)]
                words = first_listed(order, 14)
                answers = Answers(Fractions(), order, *numbers)
                self.assertEqual(plain_basis(Fractions(), words[:-1], numbers), (answers.basis, answers.columns))
                self.assert_same(answers.forced(), plain_forced(Fractions(), order, words, numbers))

    def test_against_all_machines(self):
        for field, letters, most, many in ((Modulo(2), "a", 3, 7), (Modulo(3), "a", 2, 6), (Modulo(2), "ab", 2, 6)):
            order = Order(letters, a=2)
            least = {}
            for size in range(most + 1):
                for machine in all_machines(field, letters, size):
                    values = tuple(machine.first_values(order, many))
                    for count in range(many + 1):
                        least.setdefault(values[:count], size)
            for count in range(many + 1):
                for values in itertools.product(range(field.prime), repeat=count):
                    answers = Answers(field, order, *values)
                    if values in least:
                        self.assertEqual(least[values], answers.size)
                    else:
                        self.assertGreater(answers.size, most)

    def test_profile_and_growths(self):
        for answers, order, values, words in random_answers(5, 150, 14):
            sizes = [Answers(answers.field, order, *values[:count]).size for count in range(len(values) + 1)]
            self.assert_same(answers.profile(), tuple(sizes))
            growths = [(words[at], sizes[at], sizes[at + 1]) for at in range(len(values)) if sizes[at] != sizes[at + 1]]
            self.assert_same(list(answers.growths()), growths)
            entered = {word + column for word, column in zip(answers.basis, answers.columns)}
            self.assertEqual(entered, {word for word, _, _ in growths})

    def test_growths_that_are_left_early(self):
        answers = Answers(Fractions(), Order("a"), 0, 1, 0, 0, 5, 0, 0, 0, 7)
        whole = list(answers.growths())
        self.assertGreater(len(whole), 2)
        one, other = answers.growths(), answers.growths()
        self.assertEqual(whole[0], next(one))
        self.assertEqual(whole[0], next(other))
        self.assertEqual(whole[1], next(one))
        one.close()
        self.assertEqual(whole[1:], list(other))

    def test_values_of_a_machine(self):
        chance = random.Random(6)
        for field in FIELDS:
            for letters, size in (("a", 5), ("ab", 4), ("abc", 2)):
                order, machine = Order(letters), random_machine(field, letters, size, chance)
                answers = Answers.of(machine, order, 60)
                self.assertLessEqual(answers.size, size)
                self.assertTrue(answers.agrees(machine))
                self.assertEqual(sorted(answers.profile()), list(answers.profile()))
                if field.prime != 2 and letters != "abc":
                    self.assertEqual(size, answers.size)
                    word = answers.next_word
                    self.assertEqual(machine.value_of(word), answers.forced()[0])


class ForcedTests(Checks, unittest.TestCase):
    def test_against_all_ways(self):
        for answers, order, values, words in random_answers(7, 1000, 13):
            self.assert_same(answers.forced(), plain_forced(answers.field, order, words, values))

    def test_size_with(self):
        chance = random.Random(8)
        for answers, order, values, words in random_answers(9, 200, 13):
            field, forced = answers.field, answers.forced()
            tried = list(range(field.prime)) if field.prime else [0, 1, -1, (1, 2), random_number(field, chance), 10 ** 99]
            if forced is not None and field.is_number(forced[0]):
                tried.append(forced[0])
            for number in tried:
                size = answers.size_with(number=number)
                self.assert_same(size, Answers(field, order, *values, number).size)
                stays = forced is None or number == forced[0]
                self.assertEqual(size, answers.size if stays else answers.size + forced[1])
                if not stays:
                    grown = answers.with_more(number)
                    fresh = set(grown.basis) - set(answers.basis)
                    self.assertEqual(forced[1], len(fresh))
                    self.assertTrue(all(words[-1].startswith(word) for word in fresh))

    def test_any_value(self):
        for field in (Fractions(), Modulo(7)):
            for answers in (Answers(field, Order("ab")), Answers(field, Order("ab"), 0, 1, 0, 2, 1, 1), Answers(field, Order("a"), 1)):
                for value in any_values():
                    if field.is_number(value):
                        self.assert_same(answers.size_with(value), answers.with_more(value).size)
                    else:
                        self.assert_raises(InvalidNumber, {"value": value}, answers.size_with, value)

    def test_forced_numbers_of_any_size(self):
        number = 10 ** 99
        answers = Answers(Fractions(), Order("a"), 1, number, 0, 0, 5)
        self.assert_same(answers.forced(), plain_forced(Fractions(), Order("a"), first_listed(Order("a"), 6), answers.numbers))
        powers = Answers(Fractions(), Order("a"), 1, number)
        self.assert_same(powers.forced(), (number ** 2, 1))
        self.assert_raises(InvalidNumber, {"value": number ** 2}, powers.size_with, number ** 2)
        self.assertEqual([1, 2], [powers.size, powers.size_with(0)])


class MoreTests(Checks, unittest.TestCase):
    def test_with_more_and_first(self):
        for answers, order, values, words in random_answers(10, 60, 12):
            for count in range(len(values) + 1):
                first = answers.first(count=count)
                self.assertEqual(Answers(answers.field, order, *values[:count]), first)
                more = first.with_more(*values[count:])
                self.assertEqual(answers, more)
                for one in ("size", "basis", "columns", "borders", "next_word"):
                    self.assert_same(getattr(answers, one), getattr(more, one))
                self.assert_same(answers.forced(), more.forced())
                self.assert_same(answers.profile(), more.profile())
            step = Answers(answers.field, order)
            for value in values:
                step = step.with_more(value)
            self.assertEqual([answers, answers.borders, answers.forced()], [step, step.borders, step.forced()])

    def test_first_of_any_value(self):
        answers = Answers(Modulo(7), Order("ab"), 1, 2, 3, 4, 5)
        for value in any_values() + [6]:
            if is_plain_integer(value) and 0 <= value <= 5:
                self.assertEqual((1, 2, 3, 4, 5)[:value], answers.first(value).numbers)
            else:
                self.assert_raises(OutOfRange, {"value": value}, answers.first, value)

    def test_corrected(self):
        chance = random.Random(11)
        for answers, order, values, words in random_answers(12, 60, 10):
            for at, word in enumerate(words[:-1]):
                number = random_number(answers.field, chance)
                changed = list(values)
                changed[at] = number
                corrected = answers.corrected(number=number, word=word)
                expected = Answers(answers.field, order, *changed)
                self.assertEqual(expected, corrected)
                self.assertEqual([expected.basis, expected.columns, expected.forced()],
                                 [corrected.basis, corrected.columns, corrected.forced()])
            self.assert_raises(NotKnown, {"value": words[-1]}, answers.corrected, words[-1], 0)
        for field in (Fractions(), Modulo(7)):
            for value in any_values():
                answers = Answers(field, Order("ab"), 1, 2)
                self.assert_raises(NotKnown, {"value": "b"}, answers.corrected, "b", value)
                if field.is_number(value):
                    self.assert_same(answers.corrected("", value).numbers, (value, 2))
                else:
                    self.assert_raises(InvalidNumber, {"value": value}, answers.corrected, "", value)

    def test_in_order(self):
        chance = random.Random(13)
        for answers, order, values, words in random_answers(14, 150, 14):
            other = Order(order.letters, **{letter: chance.randint(1, 4) for letter in order.letters})
            told = dict(zip(words, values))
            numbers = list(itertools.takewhile(lambda value: value is not None, [told.get(word) for word in first_listed(other, 15)]))
            turned = answers.in_order(order=other)
            self.assertEqual(Answers(answers.field, other, *numbers), turned)
            self.assertEqual(answers, answers.in_order(order))
            for wrong in (Order("bc"), Order("abcde"[:len(order.letters) + 1] if len(order.letters) < 4 else "a")):
                self.assert_raises(OtherLetters, {}, answers.in_order, wrong)
        some = Answers(Fractions(), Order("ab"), 0, 1, 2, 3).in_order(Order("ab", b=9))
        self.assertEqual(((0, 1, 3), "aaa"), (some.numbers, some.next_word))
        self.assertEqual((0,), Answers(Fractions(), Order("ab"), 0, 1).in_order(Order("ab", a=2)).numbers)

    def test_of(self):
        chance = random.Random(15)
        for field in FIELDS:
            machine = random_machine(field, "ab", 3, chance)
            for order in (Order("ab"), Order("ab", a=2)):
                for many in (0, 1, 5, 20):
                    answers = Answers.of(many=many, order=order, machine=machine)
                    self.assert_same(answers.numbers, tuple(machine.first_values(order, many)))
                    self.assertEqual(Answers(field, order, *answers.numbers), answers)
            most = 60 if field.prime is None else 150
            self.assertEqual(most, len(Answers.of(machine, Order("ab"), most)))
            for value in any_values() + [61, 151]:
                if is_plain_integer(value) and 0 <= value <= most:
                    self.assertEqual(value, len(Answers.of(machine, Order("ab"), value)))
                else:
                    self.assert_raises(InvalidCount, {"value": value}, Answers.of, machine, Order("ab"), value)
                self.assert_raises(OtherLetters, {}, Answers.of, machine, Order("a"), value)

    def test_values_of_any_size(self):
        number = 10 ** 99
        machine = Machine(Fractions(), "a", [number], {"a": [[number]]}, [number])
        answers = Answers.of(machine, Order("a"), 5)
        self.assertEqual(tuple(number ** power for power in range(2, 7)), answers.numbers)
        self.assertEqual([1, (number ** 7, 4)], [answers.size, answers.forced()])
        more = answers.with_more(0)
        self.assertEqual([(*answers.numbers, 0), 5], [more.numbers, more.size])
        self.assertEqual(answers, more.first(5))
        self.assertEqual((0, *answers.numbers[1:]), answers.corrected("", 0).numbers)
        self.assertEqual(answers.numbers, answers.in_order(Order("a", a=5)).numbers)
        self.assertTrue(answers.agrees(machine))
        self.assert_raises(InvalidAnswer, {"number": 0}, Answers, Fractions(), Order("a"), *answers.numbers)
        self.assert_raises(InvalidAnswer, {"number": 5}, answers.with_more, number ** 7)
        self.assertEqual(machine.value_of("a" * 9), Space(answers).form().value_of("a" * 9))

    def test_agrees_and_mistakes(self):
        chance = random.Random(16)
        for answers, order, values, words in random_answers(17, 150, 12):
            for size in (0, 1, 2):
                machine = random_machine(answers.field, order.letters, size, chance)
                mistakes = [word for word, value in zip(words, values) if machine.value_of(word) != value]
                self.assert_same(answers.mistakes(machine=machine), mistakes)
                self.assertIs(answers.agrees(machine=machine), mistakes == [])
            if answers.size <= 24:
                self.assertIs(answers.agrees(Space(answers).form()), True)
                self.assert_same(answers.mistakes(Space(answers).form()), [])

    def test_other_machines(self):
        answers = Answers(Modulo(7), Order("ab"), 0, 0)
        for field, letters in ((Modulo(5), "ab"), (Fractions(), "ab"), (Modulo(5), "a"), (Modulo(7), "a"), (Modulo(7), "abc")):
            machine = Machine.zero(field, letters)
            self.assertIs(answers.agrees(machine), False)
            self.assert_raises(OtherLetters if field == Modulo(7) else OtherField, {}, answers.mistakes, machine)
        self.assertIs(answers.agrees(Machine.zero(Modulo(7), "ab")), True)
        self.assertIs(Answers(Modulo(7), Order("ab")).agrees(Machine.constant(Modulo(7), "ab", 3)), True)
        self.assertIs(Answers(Modulo(7), Order("ab")).agrees(Machine.constant(Modulo(5), "ab", 3)), False)

    def test_example(self):
        some = Answers(Fractions(), Order("ab"), 0, 1, 0)
        self.assert_same([some.size, some.basis, some.borders, some.forced(), some.profile()],
                         [2, ("", "a"), ("b", "aa", "ab"), None, (0, 0, 2, 2)])
        more = some.with_more(2, 1, 1)
        self.assert_same([more.next_word, more.forced(), more.size_with(0), more.size_with(5),
                          Answers(Modulo(2), Order("a"), 0, 0).forced()], ["bb", (0, 1), 2, 3, (0, 3)])


if __name__ == "__main__":
    unittest.main()
