"""Texts of orders, machines and answers, from which equal ones are read."""

from firstanswers.answers import Answers, most_answers
from firstanswers.checks import is_letters, is_word
from firstanswers.errors import InvalidText
from firstanswers.fields import Field
from firstanswers.machines import MOST_STATES, Machine
from firstanswers.orders import Order

EMPTY_WORD = "-"
BETWEEN_ROWS = " / "
COSTS = "123456789"


def write_order(order):
    """The text of an order."""
    costs = order.costs
    return " ".join([f"{letter}:{costs[letter]}" for letter in costs])


def read_order(text):
    """The order with exactly this text."""
    return order_of(text, 0)


def write_machine(machine):
    """The text of a machine."""
    field, tables = machine.field, machine.tables
    lines = [f"machine {machine.letters} {field.name}", line_of("start", row_text(field, machine.start))]
    for letter in tables:
        rows = [row_text(field, row) for row in tables[letter]]
        lines.append(line_of(letter, BETWEEN_ROWS.join(rows)))
    lines.append(line_of("ends", row_text(field, machine.ends)))
    return "\n".join(lines)


def read_machine(text):
    """The machine with exactly this text."""
    lines = lines_of(text)
    letters, _, name = rest_of(lines, 0, "machine").partition(" ")
    if not is_letters(letters):
        raise InvalidText(0)
    field = Field.named(name)
    start = numbers_at(lines, 1, "start", field)
    size = len(start)
    if size > MOST_STATES:
        raise InvalidText(1)
    tables = {}
    for at, letter in enumerate(letters):
        tables[letter] = rows_at(lines, at + 2, letter, field, size)
    last = len(letters) + 2
    ends = numbers_at(lines, last, "ends", field)
    if len(ends) != size:
        raise InvalidText(last)
    check_end(lines, last + 1)
    return Machine(field, letters, start, tables, ends)


def write_answers(answers):
    """The text of answers."""
    field = answers.field
    values = line_of("values", row_text(field, answers.numbers))
    return "\n".join([f"answers {field.name}", write_order(answers.order), values])


def read_answers(text):
    """The answers with exactly this text."""
    lines = lines_of(text)
    field = Field.named(rest_of(lines, 0, "answers"))
    order = order_of(line_at(lines, 1), 1)
    numbers = numbers_at(lines, 2, "values", field)
    if len(numbers) > most_answers(field):
        raise InvalidText(2)
    check_end(lines, 3)
    return Answers.given(field, order, numbers)


def write_word(word):
    """The text of a word."""
    return EMPTY_WORD if word == "" else word


def read_word(text, letters):
    """The word over the letters with exactly this text."""
    word = "" if text == EMPTY_WORD else text
    if text == "" or not is_word(word, letters):
        raise InvalidText(0)
    return word


def row_text(field, numbers):
    """The text of numbers behind one another."""
    return " ".join([field.text(number) for number in numbers])


def line_of(first, rest):
    """The line with this first piece and the rest behind it."""
    return first if rest == "" else f"{first} {rest}"


def order_of(value, at):
    """The order with exactly this text, any value, which stands in the line at this place."""
    pieces = value.split(" ") if isinstance(value, str) else []
    letters, costs = "", {}
    for piece in pieces:
        if len(piece) != 3 or piece[1] != ":" or piece[2] not in COSTS:
            raise InvalidText(at)
        letters = letters + piece[0]
        costs[piece[0]] = int(piece[2])
    if not is_letters(letters):
        raise InvalidText(at)
    return Order.of_costs(costs)


def lines_of(text):
    """The lines of a text; none of any value that is no string."""
    return text.split("\n") if isinstance(text, str) else []


def line_at(lines, at):
    """The line at this place, if all lines before it can stand there."""
    if at >= len(lines):
        raise InvalidText(at)
    return lines[at]


def check_end(lines, at):
    """Raise an error if there is a line at this place."""
    if at < len(lines):
        raise InvalidText(at)


def rest_of(lines, at, first):
    """What stands behind the first piece and a space in the line at this place."""
    line = line_at(lines, at)
    if not line.startswith(first + " "):
        raise InvalidText(at)
    return line.removeprefix(first + " ")


def numbers_at(lines, at, first, field):
    """The numbers, perhaps none, behind the first piece of the line at this place."""
    if line_at(lines, at) == first:
        return []
    return numbers_in(rest_of(lines, at, first), at, field)


def rows_at(lines, at, first, field, size):
    """So many rows of as many numbers behind the first piece of the line at this place."""
    if size == 0 and line_at(lines, at) == first:
        return []
    texts = rest_of(lines, at, first).split(BETWEEN_ROWS)
    rows = [numbers_in(text, at, field) for text in texts]
    if len(rows) != size or any([len(row) != size for row in rows]):
        raise InvalidText(at)
    return rows


def numbers_in(text, at, field):
    """The numbers of a text of one or more of them in the line at this place."""
    numbers = []
    for piece in text.split(" "):
        try:
            numbers.append(field.read(piece))
        except InvalidText:
            raise InvalidText(at) from None
    return numbers
