import random
import unittest

from firstanswers.answers import Answers
from firstanswers.errors import InvalidText, TooLong
from firstanswers.fields import Fractions, Modulo
from firstanswers.machines import Machine
from firstanswers.orders import Order
from firstanswers.texts import read_answers, read_machine, read_order, write_answers, write_machine, write_order
from plain import FIELDS, random_machine
from support import Checks, any_values
from test_answers import random_answers
from test_least import counts_machine

MODULO_7 = Modulo(7)
ORDERS = [Order("a"), Order("z", z=9), Order("ab"), Order("ab", b=2), Order("bcxz", c=9, x=5), Order("abcd")]


def bent(text):
    """The text with a character more, less or another one, in each place."""
    signs = " \n017-/:+az\r"
    for at in range(len(text) + 1):
        yield text[:at] + text[at + 1:]
        for sign in signs:
            yield text[:at] + sign + text[at:]
            yield text[:at] + sign + text[at + 1:]


def line_of_change(text, other):
    """The position of the first line that is not the same."""
    one, two = text.split("\n"), other.split("\n")
    return next((at for at, (x, y) in enumerate(zip(one, two)) if x != y), min(len(one), len(two)))


class TextChecks(Checks):
    """Checks of texts that the class's read and write take."""

    def check_bent(self, texts):
        for text in texts:
            for other in bent(text):
                try:
                    found = self.read(other)
                except InvalidText as error:
                    # The lines ahead of the first change may stand, and with them all lines but for the changed ones.
                    self.assertGreaterEqual(error.line, line_of_change(text, other), other)
                else:
                    self.assert_same(self.write(found), other)

    def assert_line(self, line, lines):
        self.assert_raises(InvalidText, {"line": line}, self.read, "\n".join(lines))
        if len(lines) > line:
            # Whatever comes behind it.
            for more in ([], [""], ["x", "y"]):
                self.assert_raises(InvalidText, {"line": line}, self.read, "\n".join(lines[:line + 1] + more))

    def test_no_strings(self):
        for value in any_values():
            if not isinstance(value, str) or "\n" not in value:
                self.assert_raises(InvalidText, {"line": 0}, self.read, value)


class OrderTests(Checks, unittest.TestCase):
    def test_texts(self):
        self.assert_same(write_order(order=Order("ab", b=2)), "a:1 b:2")
        self.assert_same(write_order(Order("z", z=9)), "z:9")
        self.assertEqual(Order("bcxz", c=9, x=5), read_order(text="b:1 c:9 x:5 z:1"))
        for order in ORDERS:
            self.assertEqual(order, read_order(write_order(order)))
            self.assert_same(write_order(read_order(write_order(order))), write_order(order))

    def test_bent_texts(self):
        for order in ORDERS:
            for text in bent(write_order(order)):
                try:
                    found = read_order(text)
                except InvalidText as error:
                    self.assertEqual(0, error.line)
                else:
                    self.assert_same(write_order(found), text)

    def test_wrong_texts(self):
        for value in any_values() + ["a:0", "a:10", "a:1 a:1", "b:1 a:1", "a:1 b:1 c:1 d:1 e:1", "A:1", "a:1,b:1", "ab:1", "a:", ":1",
                                     "a1", "a:1 ", " a:1", "a:1\n", "a:1\nb:1", "a:\u0661", "\u00e4:1", "a:1  b:1", "a:+1", "a:1 b"]:
            self.assert_raises(InvalidText, {"line": 0}, read_order, value)


class MachineTests(TextChecks, unittest.TestCase):
    read, write = staticmethod(read_machine), staticmethod(write_machine)

    def machines(self):
        chance = random.Random(1)
        for field in FIELDS:
            for letters in ("a", "z", "ab", "bcxz"):
                yield Machine.zero(field, letters)
                for size in (1, 2, 3):
                    yield random_machine(field, letters, size, chance)
        yield counts_machine()
        yield random_machine(Fractions(), "ab", 24, chance)

    def test_texts(self):
        text = "machine ab fractions\nstart 1 0\na 1 1 / 0 1\nb 1 0 / 0 1\nends 0 1"
        self.assert_same(write_machine(machine=counts_machine()), text)
        self.assertEqual(counts_machine(), read_machine(text=text))
        self.assert_same(write_machine(Machine.zero(MODULO_7, "az")), "machine az modulo 7\nstart\na\nz\nends")
        machine = Machine(Fractions(), "b", [(-1, 2)], {"b": [[(3, 4)]]}, [-5])
        self.assert_same(write_machine(machine), "machine b fractions\nstart -1/2\nb 3/4\nends -5")

    def test_read_again(self):
        for machine in self.machines():
            text = write_machine(machine)
            found = read_machine(text)
            self.assertEqual(machine, found)
            self.assert_same([found.start, found.ends, found.tables], [machine.start, machine.ends, machine.tables])
            self.assert_same(write_machine(found), text)

    def test_bent_texts(self):
        chance = random.Random(2)
        for field in (Fractions(), MODULO_7):
            self.check_bent([write_machine(random_machine(field, "ab", size, chance)) for size in (0, 1, 2)])

    def lines(self):
        return "machine ab modulo 7\nstart 1 0\na 1 1 / 0 1\nb 1 0 / 0 1\nends 0 1".split("\n")

    def test_wrong_lines(self):
        wrong = [
            ["", "machine", "machine ab", "machine ab ", "machine modulo 7", "machine  ab modulo 7", "machine ab  modulo 7",
             "machine ab modulo  7", "machine ab modulo 8", "machine ab modulo 07", "machine ab modulo 7 ", " machine ab modulo 7",
             "machine ba modulo 7", "machine aa modulo 7", "machine abcde modulo 7", "machine  modulo 7", "Machine ab modulo 7",
             "machine a b modulo 7", "machine ab fraction", "machine ab modulo", "machineab modulo 7", "answers modulo 7"],
            ["", "start ", " start 1 0", "start 1  0", "start 1 0 ", "start  1 0", "start 1 7", "start 1 -1", "start 1 1/2", "start 01 0",
             "start 1 +1", "start1 0", "starts 1 0", "ends 1 0", "start 1/0", "start /", "start " + " ".join("1" * 25), "start 1 x"],
            ["", "a", "a ", "a 1 1", "a 1 1 / 0", "a 1 / 0 1", "a 1 1 / 0 1 / 0 0", "a 1 1 0 1", "a 1 1 /0 1", "a 1 1 / 0 1 ", "a 1 1 / 0 1 /",
             "a 1 1 /  0 1", "a  1 1 / 0 1", "a 1 1 / 0 7", "b 1 1 / 0 1", "a 1 1 0 / 0 1 0", "a 1 1 / / 0 1", "a / 1 1 / 0 1", "aa 1 1 / 0 1",
             "a 1 1 / 0 1 2", "a1 1 / 0 1", "ends 0 1", "a 1 1 // 0 1"],
            ["", "b", "a 1 0 / 0 1", "b 1 0 / 0 x", "b 1 0", "c 1 0 / 0 1", "ends 0 1"],
            ["", "ends", "ends ", "ends 0", "ends 0 1 0", "ends 0 7", "ends  0 1", "ends 0 1 ", "end 0 1", "start 0 1", "ends 0 / 1"],
        ]
        for at, others in enumerate(wrong):
            for line in others:
                lines = self.lines()
                lines[at] = line
                self.assert_line(at, lines)
        for at in range(5):
            lines = self.lines()
            self.assert_line(at, lines[:at] if at > 0 else [""])
            self.assert_line(at, lines[:at] + ["more"] + lines[at:])
            self.assert_line(at + 1, lines[:at + 1] + [""])
        for more in ("", "ends 0 1", "machine ab modulo 7", " "):
            self.assert_line(5, self.lines() + [more])
            self.assert_line(5, self.lines() + [more, more])

    def test_wrong_lines_without_states(self):
        lines = "machine ab modulo 7\nstart\na\nb\nends".split("\n")
        self.assertEqual(Machine.zero(MODULO_7, "ab"), read_machine("\n".join(lines)))
        for at, first in ((2, "a"), (3, "b"), (4, "ends")):
            for line in (f"{first} ", f"{first} 1", f"{first} /", f"{first} / ", "", f" {first}"):
                self.assert_line(at, lines[:at] + [line] + lines[at + 1:])
        for at in range(1, 6):
            self.assert_line(at, lines[:at] if at < 5 else lines + [""])

    def test_24_and_25_states(self):
        for field in FIELDS:
            machine = Machine.of_word(field, "ab", "ab" * 11 + "a")
            text = write_machine(machine)
            self.assertEqual(machine, read_machine(text))
            numbers = " ".join(["1"] + ["0"] * 24)
            row = " / ".join([numbers] * 25)
            self.assert_line(1, [f"machine ab {field.name}", f"start {numbers}", f"a {row}", f"b {row}", f"ends {numbers}"])

    def test_long_numbers(self):
        number, digits = 10 ** 100 - 1, "9" * 100
        for values in ((number, digits), (-number, f"-{digits}"), ((1, number), f"1/{digits}"), ((-2, number), f"-2/{digits}")):
            machine = Machine(Fractions(), "a", [values[0]], {"a": [[values[0]]]}, [values[0]])
            text = f"machine a fractions\nstart {values[1]}\na {values[1]}\nends {values[1]}"
            self.assert_same(write_machine(machine), text)
            self.assertEqual(machine, read_machine(text))
            for at in (1, 2, 3):
                lines = text.split("\n")
                lines[at] += "9"
                self.assert_line(at, lines)
        squares = machine
        great = Machine.constant(Fractions(), "a", 10 ** 99)
        for many in range(2, 12):
            great = great * Machine.constant(Fractions(), "a", 10 ** 99)
            squares = squares * machine
            if many * 99 < 1000:
                self.assert_same(write_machine(great), f"machine a fractions\nstart 1{'0' * 99 * many}\na 1\nends 1")
                self.assert_raises(InvalidText, {"line": 1}, read_machine, write_machine(great))
            else:
                self.assert_raises(TooLong, {}, write_machine, great)
        self.assert_raises(TooLong, {}, write_machine, squares)


class AnswersTests(TextChecks, unittest.TestCase):
    read, write = staticmethod(read_answers), staticmethod(write_answers)

    def test_texts(self):
        answers = Answers(Fractions(), Order("ab", b=2), 0, (1, 2), -3)
        self.assert_same(write_answers(answers=answers), "answers fractions\na:1 b:2\nvalues 0 1/2 -3")
        self.assertEqual(answers, read_answers(text="answers fractions\na:1 b:2\nvalues 0 1/2 -3"))
        self.assert_same(write_answers(Answers(MODULO_7, Order("z"))), "answers modulo 7\nz:1\nvalues")

    def test_read_again(self):
        for answers, _, _, _ in random_answers(2, 100, 14):
            text = write_answers(answers)
            found = read_answers(text)
            self.assertEqual(answers, found)
            self.assert_same(found.numbers, answers.numbers)
            self.assert_same(write_answers(found), text)

    def test_bent_texts(self):
        texts = [write_answers(answers) for answers, _, _, _ in random_answers(3, 8, 5)]
        self.check_bent(texts)

    def test_wrong_lines(self):
        right = ["answers modulo 7", "a:1 b:2", "values 1 0 6"]
        wrong = [
            ["", "answers", "answers ", "answers modulo", "answers modulo 9", "answers  modulo 7", "answers modulo 7 ", "answer modulo 7",
             " answers modulo 7", "answersmodulo 7", "answers ab modulo 7", "machine ab modulo 7", "answers Fractions"],
            ["", "a:1  b:2", "a:1 b:2 ", " a:1 b:2", "b:2 a:1", "a:1 a:1", "a:0 b:1", "a:1 b:10", "a b", "ab", "values 1 0 6", "order a:1"],
            ["", "values ", "value 1 0 6", "values 1  0 6", "values 1 0 6 ", " values 1 0 6", "values 1 0 7", "values 1 0 -6", "values 1 0 06",
             "values 1 / 6", "values 1/2", "values1 0 6", "values x"],
        ]
        for at, others in enumerate(wrong):
            for line in others:
                self.assert_line(at, right[:at] + [line] + right[at + 1:])
        for at in range(1, 3):
            self.assert_line(at, right[:at])
        for more in ("", " ", "values 1 0 6", "x\ny"):
            self.assert_line(3, right + [more])

    def test_wrong_lines_without_answers(self):
        self.assert_line(2, ["answers modulo 7", "a:1"])
        self.assert_line(3, ["answers modulo 7", "a:1", "values", ""])
        self.assert_line(2, ["answers modulo 7", "a:1", "values ", ""])
        self.assertEqual(Answers(MODULO_7, Order("a")), read_answers("answers modulo 7\na:1\nvalues"))

    def test_most_answers(self):
        # As many answers as there may be, and one more.
        for field in FIELDS:
            most = 60 if field.prime is None else 150
            answers = Answers(field, Order("ab"), *[1, 0] * (most // 2))
            self.assertEqual(answers, read_answers(write_answers(answers)))
            lines = write_answers(answers).split("\n")
            lines[2] += " 1"
            self.assert_line(2, lines)
            self.assert_line(2, lines + ["x"])

    def test_long_numbers(self):
        number, digits = 10 ** 100 - 1, "9" * 100
        for value, text in ((number, digits), (-number, f"-{digits}"), ((number, 2), f"{digits}/2"), ((-1, number), f"-1/{digits}")):
            answers = Answers(Fractions(), Order("a"), value)
            self.assert_same(write_answers(answers), f"answers fractions\na:1\nvalues {text}")
            self.assertEqual(answers, read_answers(write_answers(answers)))
        for text in ("9" + digits, f"{digits}9/2", f"1/9{digits}", f"-9{digits}"):
            self.assert_line(2, ["answers fractions", "a:1", f"values {text}"])
        great = Machine.constant(Fractions(), "a", 10 ** 99)
        for many in range(2, 12):
            great = great * Machine.constant(Fractions(), "a", 10 ** 99)
            answers = Answers.of(great, Order("a"), 2)
            if many * 99 < 1000:
                number = "1" + "0" * 99 * many
                self.assert_same(write_answers(answers), f"answers fractions\na:1\nvalues {number} {number}")
                self.assert_raises(InvalidText, {"line": 2}, read_answers, write_answers(answers))
            else:
                self.assert_raises(TooLong, {}, write_answers, answers)


if __name__ == "__main__":
    unittest.main()
