import math
import random
import re
import unittest

from firstanswers.answers import Answers
from firstanswers.desks import Desk
from firstanswers.errors import InvalidRow, Nothing, OutOfRange, TooLong, TooMany, TooSmall
from firstanswers.fields import Fractions, Modulo
from firstanswers.futures import enough, other_size
from firstanswers.orders import Order
from firstanswers.spaces import Space
from firstanswers.texts import write_machine, write_order
from plain import random_number
from support import Checks, any_values
from test_texts import bent

MODULO_7 = Modulo(7)
PLAIN_ROWS = ["undo", "redo", "size", "basis", "borders", "next", "dimension", "machine", "others"]
ROWS = PLAIN_ROWS + ["field fractions", "field modulo 7", "order a:1 b:2", "order z:9", "answer 0", "answer 0 1/2 -3", "drop 0", "drop 2",
                     "drop 150", "value -", "value ab", "enough 0", "enough 3", "enough 100"]

PRIMES = [str(prime) for prime in range(2, 1000) if all(prime % each for each in range(2, prime))]


def desk_after(*rows):
    desk = Desk()
    for row in rows:
        desk.say(row)
    return desk


def word_text(word):
    return word or "-"


def walked(desk, row, back):
    """The answers behind each step that the row can make; the desk stays as it is."""
    found = []
    while True:
        try:
            desk.say(row)
        except Nothing:
            break
        found.append(desk.answers)
    for _ in found:
        desk.say(back)
    return found


def told(desk):
    """What a desk knows: the answers, those that can be redone, and those that can be undone."""
    return desk.answers, walked(desk, "redo", "undo"), walked(desk, "undo", "redo")


def plain_answer(answers, row):
    """What a row that asks answers, by what the program tells elsewhere."""
    first, _, rest = row.partition(" ")
    space, field = Space(answers), answers.field
    if first == "size":
        return str(answers.size)
    if first in ("basis", "borders"):
        return " ".join([word_text(word) for word in (answers.basis if first == "basis" else answers.borders)]) or "none"
    if first == "next":
        forced = answers.forced()
        return word_text(answers.next_word) + (" free" if forced is None else f" {field.text(forced[0])} {forced[1]}")
    if first == "dimension":
        return str(space.dimension)
    if first == "machine":
        return write_machine(space.form())
    if first == "value":
        return field.text(space.form().value_of("" if rest == "-" else rest))
    if first == "others":
        return str(other_size(answers))
    return str(enough(space.form(), answers.order, int(rest)))


class AskingTests(Checks, unittest.TestCase):
    def test_at_first(self):
        desk = Desk()
        self.assertEqual(Answers(Fractions(), Order("ab")), desk.answers)
        found = [desk.say(row) for row in ("size", "basis", "borders", "next", "dimension", "others", "value -", "enough 0", "enough 1")]
        self.assert_same(found, ["0", "none", "-", "- 0 1", "0", "1", "0", "0", "1"])
        self.assert_same(desk.say(row="machine"), "machine ab fractions\nstart\na\nb\nends")
        self.assertEqual(Answers(Fractions(), Order("ab")), desk.answers)

    def test_some_answers(self):
        desk = desk_after("answer 0 1 0")
        self.assert_same([desk.say(row) for row in ("size", "basis", "borders", "next", "dimension", "others")],
                         ["2", "- a", "b aa ab", "aa free", "5", "2"])
        self.assert_same([desk.say("answer 2 1 1"), desk.say("next"), desk.say("answer 0 3 2 2"), desk.say("next")],
                         ["ok", "bb 0 1", "ok", "abb 1 1"])
        found = [desk.say(row) for row in ("value aab", "value -", "others", "dimension", "enough 2", "enough 3", "enough 100")]
        number = str(enough(Space(desk.answers).form(), Order("ab"), 100))
        self.assert_same(found, ["2", "0", "3", "0", "10", "22", number])
        self.assert_same(desk.say("machine"), "machine ab fractions\nstart 1 0\na 0 1 / -1 2\nb 1 0 / 0 1\nends 0 1")
        self.assertEqual(10, Order("ab").number_of("aba") + 1)
        halves = desk_after("answer 1/2 -1/3")
        self.assert_same([halves.say("value -"), halves.say("value a"), halves.say("next")], ["1/2", "-1/3", "b free"])

    def test_against_what_is_told_elsewhere(self):
        chance = random.Random(1)
        for field in (Fractions(), Modulo(2), MODULO_7):
            for order in (Order("ab"), Order("a", a=3), Order("bcz", c=2)):
                desk = desk_after(f"field {field.name}", f"order {write_order(order)}")
                answers = Answers(field, order)
                for _ in range(6):
                    for row in PLAIN_ROWS[2:] + ["value -", f"value {order.letters}", "enough 8", "enough 21"]:
                        self.assert_same(desk.say(row), plain_answer(answers, row))
                        self.assert_same(desk.say(f"try {row}"), plain_answer(answers, row))
                    numbers = [random_number(field, chance) if chance.random() < 0.5 else 0 for _ in range(chance.randint(1, 3))]
                    self.assert_same(desk.say("answer " + " ".join([field.text(number) for number in numbers])), "ok")
                    answers = answers.with_more(*numbers)
                    self.assertEqual(answers, desk.answers)

    def test_too_small(self):
        desk = desk_after("answer 0 1 0")
        for bound in (0, 1):
            self.assert_raises(TooSmall, {"least_size": 2}, desk.say, f"enough {bound}")
            self.assert_raises(TooSmall, {"least_size": 2}, desk.say, f"try enough {bound}")

    def test_more_than_24_states(self):
        desk = desk_after("order a:1", "answer " + "0 " * 23 + "1")
        self.assert_same([desk.say("size"), desk.say("value " + "a" * 23), desk.say("enough 24")], ["24", "1", "48"])
        self.assertEqual(28, len(desk.say("machine").split(" / ")) + 4)
        desk = desk_after("order a:1", "answer " + "0 " * 24 + "1")
        found = [desk.say(row) for row in ("size", "others", "dimension", "next")]
        self.assert_same(found, ["25", "25", "25", "a" * 25 + " free"])
        self.assertEqual(25, len(desk.say("basis").split(" ")))
        self.assert_same(desk.say("borders"), "a" * 25)
        for row in ("machine", "value -", "value a", "enough 0", "enough 24", "enough 100"):
            self.assert_raises(TooMany, {"limit": 24}, desk.say, row)
            self.assert_raises(TooMany, {"limit": 24}, desk.say, f"try {row}")
        for row in ("value b", "enough 101", "machine -"):
            self.assert_raises(InvalidRow, {"row": row}, desk.say, row)

    def test_long_numbers(self):
        desk = desk_after("order a:1", "answer 1 1" + "0" * 99)
        self.assert_same(desk.say("value aaaaaaaaaa"), "1" + "0" * 990)
        self.assert_raises(TooLong, {}, desk.say, "value aaaaaaaaaaa")
        self.assert_raises(TooLong, {}, desk.say, "try value aaaaaaaaaaa")
        self.assert_same(desk.say("next"), "aa 1" + "0" * 198 + " 1")


class ChangingTests(Checks, unittest.TestCase):
    def test_field_and_order(self):
        desk = desk_after("answer 1 2")
        self.assert_same(desk.say("field modulo 7"), "ok")
        self.assertEqual(Answers(MODULO_7, Order("ab")), desk.answers)
        desk.say("answer 1 2")
        self.assert_same(desk.say("order b:3 z:1"), "ok")
        self.assertEqual(Answers(MODULO_7, Order("bz", b=3)), desk.answers)
        self.assert_same(desk.say("field fractions"), "ok")
        self.assertEqual(Answers(Fractions(), Order("bz", b=3)), desk.answers)

    def test_answer_and_drop(self):
        desk = desk_after("answer 1 2", "answer 3")
        self.assertEqual(Answers(Fractions(), Order("ab"), 1, 2, 3), desk.answers)
        for row, left in (("drop 0", 3), ("drop 1", 2), ("drop 2", 0), ("drop 0", 0)):
            self.assert_same(desk.say(row), "ok")
            self.assertEqual(Answers(Fractions(), Order("ab"), *[1, 2, 3][:left]), desk.answers)
        desk.say("answer 1 2")
        for count in (3, 99, 150):
            self.assert_raises(OutOfRange, {"value": count}, desk.say, f"drop {count}")
        self.assertEqual(2, len(desk.answers))

    def test_most_answers(self):
        for name, most in (("fractions", 60), ("modulo 7", 150)):
            desk = desk_after(f"field {name}", "answer" + " 1" * most)
            self.assert_raises(TooMany, {"limit": most}, desk.say, "answer 1")
            self.assertEqual(most, len(desk.answers))
            self.assert_raises(TooMany, {"limit": most}, desk_after(f"field {name}", "answer 1").say, "answer" + " 1" * most)
            self.assert_same(desk.say(f"drop {most}"), "ok")
            self.assertEqual(0, len(desk.answers))

    def test_undo_and_redo(self):
        rows = ["answer 1 2", "drop 1", "field modulo 7", "answer 3 4", "order a:2 b:1", "drop 0", "answer 5", "field modulo 7"]
        desk = Desk()
        stages = [desk.answers]
        self.assert_raises(Nothing, {}, desk.say, "undo")
        for row in rows:
            desk.say(row)
            stages.append(desk.answers)
            self.assert_raises(Nothing, {}, desk.say, "redo")
        for stage in stages[-2::-1]:
            self.assert_same(desk.say("undo"), "ok")
            self.assertEqual(stage, desk.answers)
        self.assert_raises(Nothing, {}, desk.say, "undo")
        for stage in stages[1:]:
            self.assert_same(desk.say("redo"), "ok")
            self.assertEqual(stage, desk.answers)
        self.assert_raises(Nothing, {}, desk.say, "redo")

    def test_what_makes_redoing_impossible(self):
        for row in ("answer 5", "answer 2", "drop 0", "drop 1", "field fractions", "order a:1 b:1"):
            desk = desk_after("answer 1", "answer 2", "undo")
            desk.say(row)
            self.assert_raises(Nothing, {}, desk.say, "redo")
            desk.say("undo")
            self.assertEqual(Answers(Fractions(), Order("ab"), 1), desk.answers)
        for row in PLAIN_ROWS[2:] + ["value a", "enough 3", "try answer 5", "try drop 1", "try undo", "try redo", "try field modulo 2"]:
            desk = desk_after("answer 1", "answer 2", "undo", row)
            self.assertEqual(Answers(Fractions(), Order("ab"), 1), desk.answers)
            desk.say("redo")
            self.assertEqual(Answers(Fractions(), Order("ab"), 1, 2), desk.answers)
        for row, error in (("drop 2", OutOfRange), ("answer 1/0", InvalidRow), ("enough 0", TooSmall), ("answer" + " 1" * 60, TooMany)):
            desk = desk_after("answer 1", "answer 2", "undo")
            self.assertRaises(error, desk.say, row)
            desk.say("redo")
            self.assertEqual(Answers(Fractions(), Order("ab"), 1, 2), desk.answers)

    def test_try(self):
        rows = ["answer 1 0", "field modulo 7", "answer 1 2", "answer 3", "undo", "undo"]
        for row in ROWS + ["redo", "answer" + " 1" * 150, "drop 1", "field modulo 2", "enough 1"]:
            for count in range(len(rows) + 1):
                desk, other = desk_after(*rows[:count]), desk_after(*rows[:count])
                before = told(desk)
                try:
                    found = other.say(row)
                except (Nothing, OutOfRange, TooMany, TooSmall, InvalidRow) as error:
                    fields = vars(error)
                    if isinstance(error, InvalidRow):
                        fields = {"row": f"try {row}"}
                    self.assert_raises(type(error), fields, desk.say, f"try {row}")
                else:
                    self.assert_same(desk.say(f"try {row}"), found)
                self.assertEqual(before, told(desk))

    def test_two_desks(self):
        one, other = Desk(), Desk()
        one.say("answer 1")
        self.assertEqual([1, 0], [len(one.answers), len(other.answers)])
        self.assertNotEqual(one, other)


class RowTests(Checks, unittest.TestCase):
    def test_any_value(self):
        desk = desk_after("answer 1", "answer 2", "undo")
        before = told(desk)
        for value in any_values():
            self.assert_raises(InvalidRow, {"row": value}, desk.say, value)
        self.assertEqual(before, told(desk))

    def test_wrong_rows(self):
        wrong = [
            "", " ", "try", "try ", "try try", "try try size", "try  size", "try size ", " try size", "Try size", "size ", " size", "size 1", "SIZE",
            "sizes", "size\n", "undo 1", "redo 1", "undo ", "next -", "basis\n", "machine ab", "others 1", "dimension 0", "ok", "none", "-",
            "field", "field ", "field fraction", "field modulo", "field modulo 8", "field  fractions", "field fractions ", "field modulo  7",
            "field modulo 7 7", "field modulo 1000000011", "order", "order ", "order ab", "order a:0", "order a:10", "order b:1 a:1",
            "order a:1  b:1", "order a:1 ", "order a:1\n", "order -", "answer", "answer ", "answer x", "answer 1  2", "answer 1 2 ",
            "answer 2/4", "answer 1/1", "answer 01", "answer -0", "answer +1", "answer 1 x", "answer 1\n", "answer 1" + "0" * 100, "answer 1.5",
            "drop", "drop ", "drop -1", "drop 151", "drop 01", "drop 00", "drop 1 1", "drop 1/2", "drop x", "drop 1000", "drop " + "9" * 500,
            "value", "value ", "value c", "value abc", "value a b", "value a-", "value --", "value A", "value " + "a" * 161, "value a\n",
            "enough", "enough ", "enough 101", "enough -1", "enough 01", "enough 1 1", "enough x", "enough 1000", "enough 3/1",
        ]
        for rows in ((), ("answer 1 2",), ("answer" + " 1" * 60,), ("answer 1", "undo")):
            desk = desk_after(*rows)
            before = told(desk)
            for row in wrong:
                self.assert_raises(InvalidRow, {"row": row}, desk.say, row)
                self.assert_raises(InvalidRow, {"row": f"try {row}"}, desk.say, f"try {row}")
            self.assertEqual(before, told(desk))

    def test_rows_of_another_field_and_other_letters(self):
        desk = desk_after("field modulo 7", "order x:1 z:1")
        for row in ("answer 7", "answer -1", "answer 1/2", "answer 1 7", "value a", "value xza"):
            self.assert_raises(InvalidRow, {"row": row}, desk.say, row)
        self.assert_same([desk.say("answer 6 0"), desk.say("value xzx"), desk.say("value -"), desk.say("value " + "z" * 160)], ["ok", "0", "6", "0"])

    def test_bent_rows(self):
        for row in ROWS + ["try size", "try answer 1", "try undo"]:
            for other in bent(row):
                desk = desk_after("answer 1 2 3", "answer 4", "undo")
                try:
                    desk.say(other)
                except InvalidRow as error:
                    self.assertEqual(other, error.row)
                    self.assertFalse(self.is_row(other), other)
                except (OutOfRange, TooSmall, Nothing, TooMany):
                    self.assertTrue(self.is_row(other), other)
                else:
                    self.assertTrue(self.is_row(other), other)

    def is_row(self, row):
        """Whether it is a row for the fractions and the letters ab, told in another way."""
        pieces = row.removeprefix("try ").split(" ")
        first, rest = pieces[0], pieces[1:]
        if first in PLAIN_ROWS or not rest:
            return first in PLAIN_ROWS and not rest
        if first == "field":
            return rest == ["fractions"] or len(rest) == 2 and rest[0] == "modulo" and rest[1] in PRIMES
        if first == "order":
            letters = [piece[0] for piece in rest if piece]
            return sorted(set(letters)) == letters and len(letters) < 5 and all(
                len(piece) == 3 and "a" <= piece[0] <= "z" and piece[1] == ":" and piece[2] in "123456789" for piece in rest)
        if first == "answer":
            return all(self.is_number(piece) for piece in rest)
        if first in ("drop", "enough"):
            return len(rest) == 1 and rest[0] in [str(count) for count in range(151 if first == "drop" else 101)]
        return first == "value" and len(rest) == 1 and (rest[0] == "-" or rest[0] != "" and set(rest[0]) <= {"a", "b"})

    def is_number(self, piece):
        found = re.fullmatch("(0|-?[1-9][0-9]*)(/([1-9][0-9]*))?", piece)
        return found is not None and (found[3] is None or found[3] != "1" and math.gcd(int(found[1]), int(found[3])) == 1)


if __name__ == "__main__":
    unittest.main()
