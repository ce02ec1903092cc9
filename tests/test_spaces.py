import itertools
import random
import unittest

from firstanswers.answers import Answers
from firstanswers.errors import InvalidCoordinates, InvalidWord, NotFinite, OtherField, OtherLetters, TooMany
from firstanswers.fields import Fractions, Modulo
from firstanswers.least import first_rows, is_alike, is_normal, least, size_of
from firstanswers.machines import Machine
from firstanswers.orders import Order
from firstanswers.spaces import Space
from plain import FIELDS, all_machines, random_machine, random_number, turned_round
from support import Checks, all_words, any_values, is_word
from test_answers import random_answers

MODULO_2, MODULO_3 = Modulo(2), Modulo(3)


def late_answers(field, many):
    """Answers of which the last one alone is not 0: they need as many states."""
    return Answers(field, Order("a"), *[0] * (many - 1), 1)


def plain_free(answers):
    """The free pairs, by what the known rows reach."""
    order, pairs = answers.order, []
    for border in answers.borders:
        for word, column in zip(answers.basis, answers.columns):
            if order.is_before(word, border) and border + column not in answers:
                pairs.append((border, word))
    return tuple(pairs)


class FormTests(Checks, unittest.TestCase):
    def test_properties(self):
        for answers, _, _, _ in random_answers(1, 200, 13):
            space = Space(answers=answers)
            self.assertEqual(answers, space.answers)
            self.assert_same(space.free, plain_free(answers))
            self.assert_same(space.dimension, len(space.free))
            if answers.field.prime is None:
                self.assert_same(space.series_count, None if space.dimension else 1)
            else:
                self.assert_same(space.series_count, answers.field.prime ** space.dimension)

    def test_forms_with_coordinates(self):
        chance = random.Random(2)
        for answers, order, _, _ in random_answers(3, 300, 13):
            space, field = Space(answers), answers.field
            zeros = (0,) * space.dimension
            tried = [zeros] + [tuple(random_number(field, chance) for _ in zeros) for _ in range(3)]
            self.assertEqual(space.form(), space.at(zeros))
            for coordinates in tried:
                form = space.at(coordinates=list(coordinates))
                self.assertEqual(space.at(coordinates), form)
                if coordinates:
                    self.assertEqual(space.form(*coordinates), form)
                self.assertEqual([field, order.letters, answers.size], [form.field, form.letters, form.size])
                self.assertTrue(answers.agrees(form))
                self.assertTrue(is_normal(form, order))
                self.assert_same(first_rows(form, order), answers.basis)
                self.assertEqual(answers.size, size_of(form))
                self.assert_same(space.coordinates_of(machine=form), coordinates)
                self.assertIs(space.has(value=form), True)
                self.assert_same(form.ends, tuple(answers[word] for word in answers.basis))
                for (border, word), number in zip(space.free, coordinates):
                    row = form.tables[border[-1]][answers.basis.index(border[:-1])]
                    self.assert_same(row[answers.basis.index(word)], number)
                other = turned_round(form, chance)
                self.assert_same(space.coordinates_of(other + Machine.zero(field, order.letters)), coordinates)

    def test_great_numbers(self):
        number = 10 ** 99
        for values in ([number, 1, 0, (1, number)], [0, 0, number], [1, 2, 3, 4, 5, number, (number, 7)]):
            for order in (Order("a"), Order("ab"), Order("ab", b=2)):
                answers = Answers(Fractions(), order, *values)
                space = Space(answers)
                coordinates = tuple([number, (1, number), 0, -number][at % 4] for at in range(space.dimension))
                form = space.at(coordinates)
                self.assertTrue(answers.agrees(form))
                self.assertEqual(coordinates, space.coordinates_of(form))
                self.assertTrue(is_normal(form, order))

    def test_size_0(self):
        for field in FIELDS:
            for answers in (Answers(field, Order("ab")), Answers(field, Order("ab"), 0, 0, 0)):
                space = Space(answers)
                self.assert_same([space.free, space.dimension, space.series_count], [(), 0, 1])
                self.assertEqual(Machine.zero(field, "ab"), space.form())
                self.assertEqual([Machine.zero(field, "ab")] * 2, [space.at([]), space.at(())])
                self.assertEqual([Machine.zero(field, "ab")], list(space.forms()))
                self.assert_same(space.coordinates_of(Machine.constant(field, "ab", 0)), ())
                self.assertIsNone(space.coordinates_of(Machine.constant(field, "ab", 1)))
                self.assert_same(space.sure("abababab"), 0)

    def test_24_and_25_states(self):
        for field in FIELDS:
            form = Space(late_answers(field, 24)).form()
            self.assertEqual([24, 1], [form.size, form.value_of("a" * 23)])
            space = Space(late_answers(field, 25))
            self.assertEqual(25, space.dimension)
            self.assert_raises(TooMany, {"limit": 24}, space.form)
            self.assert_raises(TooMany, {"limit": 24}, space.form, *[0] * 25)
            self.assert_raises(TooMany, {"limit": 24}, space.at, [1] * 25)
            self.assert_raises(InvalidCoordinates, {}, space.form, 0)
            self.assert_raises(InvalidCoordinates, {}, space.at, [0] * 24 + [None])
            if field.prime is None:
                self.assert_raises(NotFinite, {}, lambda: next(space.forms()))
            else:
                self.assert_raises(TooMany, {"limit": 24}, lambda: next(space.forms()))
            self.assertIsNone(space.coordinates_of(Machine.constant(field, "a", 1)))
            self.assertIs(space.has(Machine.zero(field, "a")), False)
            self.assert_raises(TooMany, {"limit": 6}, space.sure, "a")

    def test_wrong_coordinates(self):
        for field in (Fractions(), Modulo(7)):
            two = Space(Answers(field, Order("a"), 0, 1))
            none = Space(Answers(field, Order("a"), 1, 2))
            self.assertEqual([2, 0], [two.dimension, none.dimension])
            for value in any_values():
                for space, many in ((two, 2), (none, 0)):
                    is_list = type(value) in (list, tuple) and len(value) == many and all(field.is_number(each) for each in value)
                    if is_list:
                        self.assert_same(space.coordinates_of(space.at(value)), tuple(value))
                    else:
                        self.assert_raises(InvalidCoordinates, {}, space.at, value)
                self.assert_raises(InvalidCoordinates, {}, two.form, value)
                self.assert_raises(InvalidCoordinates, {}, none.form, value)
                self.assert_raises(InvalidCoordinates, {}, two.form, 1, 1, value)
                for pair in ((1, value), (value, 1)):
                    if field.is_number(value):
                        self.assert_same(two.coordinates_of(two.form(*pair)), pair)
                    else:
                        self.assert_raises(InvalidCoordinates, {}, two.form, *pair)
                        self.assert_raises(InvalidCoordinates, {}, two.at, list(pair))


class SeriesTests(Checks, unittest.TestCase):
    def test_against_all_machines(self):
        for field, letters, most, many in ((MODULO_2, "a", 3, 6), (MODULO_3, "a", 2, 5), (MODULO_2, "ab", 2, 6)):
            order = Order(letters, a=2)
            words = all_words(letters, 2 * most - 1)
            series = {}
            for size in range(most + 1):
                for machine in all_machines(field, letters, size):
                    series.setdefault(tuple(machine.value_of(word) for word in words), (size, machine))
            least_ones = [(machine.first_values(order, many), size, values, machine)
                          for values, (size, machine) in series.items()]
            for count in range(many + 1):
                by_answers = {}
                for values, size, whole, machine in least_ones:
                    by_answers.setdefault(tuple(values[:count]), []).append((size, whole, machine))
                for values, agreeing in by_answers.items():
                    space = Space(Answers(field, order, *values))
                    size = min(size for size, _, _ in agreeing)
                    expected = {whole for each, whole, _ in agreeing if each == size}
                    self.assertEqual(size, space.answers.size)
                    self.assertEqual(space.series_count, len(expected))
                    found = [tuple(form.value_of(word) for word in words) for form in space.forms()]
                    self.assertEqual(expected, set(found))
                    self.assertEqual(len(expected), len(found))
                    for each, _, machine in agreeing[:3]:
                        self.assertIs(space.has(machine), each == size)

    def test_forms_are_ascending(self):
        seen = 0
        for answers, order, _, _ in random_answers(4, 300, 13):
            space = Space(answers)
            if space.series_count is None:
                self.assert_raises(NotFinite, {}, lambda: next(space.forms()))
            elif space.series_count < 400:
                seen += 1
                forms = list(space.forms())
                coordinates = [space.coordinates_of(form) for form in forms]
                expected = itertools.product(range(answers.field.prime or 1), repeat=space.dimension)
                self.assert_same(coordinates, list(expected))
                self.assertEqual(space.series_count, len(forms))
                for form in forms[:20]:
                    self.assertTrue(answers.agrees(form))
                    self.assertTrue(is_normal(form, order))
        self.assertGreater(seen, 100)

    def test_very_many_forms(self):
        space = Space(late_answers(Modulo(999999937), 24))
        forms = space.forms()
        for last in range(3):
            self.assertEqual((0,) * 23 + (last,), space.coordinates_of(next(forms)))

    def test_forms_in_turn(self):
        space = Space(Answers(MODULO_3, Order("a"), 0, 1))
        whole = list(space.forms())
        self.assertEqual(9, len(whole))
        one, other = space.forms(), space.forms()
        self.assertEqual(whole[:2], [next(one), next(one)])
        self.assertEqual(whole[0], next(other))
        self.assertEqual(whole[2], next(one))
        other.close()
        self.assertEqual(whole[3:], list(one))
        self.assertEqual(whole, list(space.forms()))

    def test_coordinates_of_other_machines(self):
        chance = random.Random(5)
        for answers, order, _, _ in random_answers(6, 200, 9):
            space = Space(answers)
            for size in range(3):
                machine = random_machine(answers.field, order.letters, size, chance)
                inside = answers.agrees(machine) and size_of(machine) == answers.size
                self.assertIs(space.has(machine), inside)
                self.assertIs(space.coordinates_of(machine) is not None, inside)
                if inside:
                    self.assertTrue(is_alike(machine, space.at(space.coordinates_of(machine))))
            larger = space.form() + Machine.of_word(answers.field, order.letters, "a" * 14)
            self.assertEqual(len(answers) > 40, space.has(larger))

    def test_any_value(self):
        space = Space(Answers(MODULO_2, Order("ab"), 0, 1, 0))
        for value in any_values() + [space, space.answers, Machine.zero(MODULO_2, "ab"), Machine.zero(MODULO_2, "a")]:
            self.assertIs(space.has(value), False)
        self.assertIs(space.has(space.form()), True)
        zero = Space(Answers(MODULO_2, Order("ab")))
        for value in any_values():
            self.assertIs(zero.has(value), False)
        self.assertIs(zero.has(Machine.zero(MODULO_2, "ab")), True)
        self.assertIs(zero.has(Machine.zero(MODULO_3, "ab")), False)
        self.assertIs(zero.has(Machine.zero(MODULO_2, "a")), False)

    def test_errors(self):
        space = Space(Answers(MODULO_2, Order("ab"), 0, 1, 0))
        for machine in (Machine.zero(MODULO_3, "ab"), Machine.zero(Fractions(), "a")):
            self.assert_raises(OtherField, {}, space.coordinates_of, machine)
        for letters in ("a", "abc", "bc"):
            self.assert_raises(OtherLetters, {}, space.coordinates_of, Machine.zero(MODULO_2, letters))

    def test_24_states(self):
        chance = random.Random(7)
        for field in (Modulo(2), Modulo(999999937)):
            machine = random_machine(field, "a", 24, chance)
            answers = Answers.of(machine, Order("a"), 60)
            space = Space(answers)
            self.assertEqual([size_of(machine), 0], [answers.size, space.dimension])
            self.assertEqual(least(machine, Order("a")), space.form())
            self.assertEqual((), space.coordinates_of(machine))


class SureTests(Checks, unittest.TestCase):
    def test_against_all_forms(self):
        seen = same = 0
        for answers, order, _, _ in random_answers(8, 600, 13):
            space = Space(answers)
            words = all_words(order.letters, 4 if len(order.letters) < 3 else 3) + [order.letters[-1] * 8]
            if space.dimension > 6:
                self.assert_raises(TooMany, {"limit": 6}, space.sure, words[1])
            elif space.series_count is not None and space.series_count <= 64:
                seen += 1
                forms = list(space.forms())
                for word in words:
                    values = {form.value_of(word) for form in forms}
                    self.assert_same(space.sure(word=word), values.pop() if len(values) == 1 else None)
            else:
                chance = random.Random(9)
                for word in words:
                    value = space.sure(word)
                    same += value is not None
                    forms = [space.at([random_number(answers.field, chance) for _ in space.free]) for _ in range(4)]
                    values = {form.value_of(word) for form in forms}
                    self.assertTrue(value is None or values == {value})
                    if answers.field.prime is None and value is None:
                        forms = [space.at([chance.randint(-10 ** 9, 10 ** 9) for _ in space.free]) for _ in range(3)]
                        self.assertGreater(len({form.value_of(word) for form in forms}), 1)
        self.assertGreater(seen, 100)
        self.assertGreater(same, 50)

    def test_known_and_forced_words(self):
        for answers, _, _, words in random_answers(10, 200, 14):
            space = Space(answers)
            if space.dimension <= 6 and all(len(word) <= 8 for word in words):
                for word in words[:-1]:
                    self.assert_same(space.sure(word), answers[word])
                forced = answers.forced()
                self.assertTrue(forced is None or space.sure(words[-1]) == forced[0])

    def test_same_everywhere_without_being_constant(self):
        # As polynomials these values are not constant, but as functions they are: x ** p is x.
        for prime, letters, values, word, value in (
                (2, "a", (0, 1, 1, 0, 0), "a" * 7, 0), (2, "a", (1, 1, 1, 0, 1), "a" * 7, 1),
                (2, "ab", (1, 1, 0, 0), "aaab", 0), (2, "ab", (1, 0, 0, 1), "a" * 6, 1),
                (3, "a", (0, 1, 0, 1, 1), "a" * 7, 2), (3, "a", (1, 0, 1, 0, 0), "a" * 8, 0)):
            space = Space(Answers(Modulo(prime), Order(letters), *values))
            self.assertGreater(space.dimension, 0)
            self.assertEqual({value}, {form.value_of(word) for form in space.forms()})
            self.assert_same(space.sure(word), value)
        for prime in (2, 3, 5, 7):
            space = Space(Answers(Modulo(prime), Order("a"), 1))
            self.assertEqual(1, space.dimension)
            for many in range(9):
                powers = {pow(x, many, prime) for x in range(prime)}
                self.assert_same(space.sure("a" * many), powers.pop() if len(powers) == 1 else None)
        for field in (MODULO_2, MODULO_3):
            for values in itertools.product(range(field.prime), repeat=4):
                space = Space(Answers(field, Order("a"), *values))
                for many in range(9):
                    told = {form.value_of("a" * many) for form in space.forms()}
                    self.assert_same(space.sure("a" * many), told.pop() if len(told) == 1 else None)

    def test_no_free_pairs(self):
        chance = random.Random(11)
        for field in FIELDS:
            machine = random_machine(field, "ab", 2, chance)
            space = Space(Answers.of(machine, Order("ab"), 40))
            if space.dimension == 0:
                for word in all_words("ab", 4) + ["abbababb"]:
                    self.assert_same(space.sure(word), machine.value_of(word))

    def test_errors(self):
        two = Space(Answers(Modulo(7), Order("ab"), 1))
        many = Space(Answers(Modulo(7), Order("ab"), 0, 0, 0, 1))
        self.assertGreater(many.dimension, 6)
        for value in any_values() + ["a" * 8, "a" * 9, "c", "abc"]:
            if is_word(value, "ab") and len(value) <= 8:
                self.assertEqual(1 if value == "" else None, two.sure(value))
                self.assert_raises(TooMany, {"limit": 6}, many.sure, value)
            else:
                for space in (two, many):
                    self.assert_raises(InvalidWord, {"value": value}, space.sure, value)

    def test_dimensions_6_and_7(self):
        for many in range(5, 9):
            space = Space(late_answers(MODULO_2, many))
            self.assertEqual(many, space.dimension)
            if many > 6:
                self.assert_raises(TooMany, {"limit": 6}, space.sure, "")
            else:
                self.assertEqual([0, 1, None], [space.sure(""), space.sure("a" * (many - 1)), space.sure("a" * many)])

    def test_example(self):
        space = Space(Answers(Modulo(2), Order("ab"), 0, 1, 0))
        self.assert_same([space.free, space.dimension, space.series_count, space.sure("bb"), space.sure("ba")],
                         [(("b", ""), ("aa", ""), ("aa", "a"), ("ab", ""), ("ab", "a")), 5, 32, 0, None])
        self.assert_same(space.form().tables, {"a": ((0, 1), (0, 0)), "b": ((0, 0), (0, 0))})
        self.assert_same([space.form(1, 0, 0, 0, 0).tables["b"], space.coordinates_of(space.form(0, 1, 0, 1, 1))],
                         [((1, 0), (0, 0)), (0, 1, 0, 1, 1)])


class ObjectTests(Checks, unittest.TestCase):
    def test_nothing_changes(self):
        answers = Answers(MODULO_3, Order("ab"), 0, 1, 0)
        space = Space(answers)
        coordinates = [1] * space.dimension
        form = space.at(coordinates)
        coordinates[0] = 2
        form.tables["a"] = ()
        space.form().tables.clear()
        for call in (lambda: space.at([3]), lambda: space.form(None), lambda: space.sure("c")):
            with self.assertRaises(ValueError):
                call()
        self.assertEqual((1,) * space.dimension, space.coordinates_of(form))
        self.assertEqual(Answers(MODULO_3, Order("ab"), 0, 1, 0), space.answers)
        self.assertEqual(space.form(), Space(answers).form())


if __name__ == "__main__":
    unittest.main()
