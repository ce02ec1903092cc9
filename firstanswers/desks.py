"""Desks: rows of text that change answers and ask about them."""

from firstanswers.answers import MOST_ANSWERS, Answers
from firstanswers.errors import InvalidRow, InvalidText, Nothing, OutOfRange
from firstanswers.fields import Field, Fractions, integer_of
from firstanswers.futures import MOST_BOUND, enough, other_size
from firstanswers.orders import Order
from firstanswers.spaces import Space
from firstanswers.texts import numbers_in, read_order, read_word, write_machine, write_word

COUNT_DIGITS = 3
DONE = "ok"
NO_WORDS = "none"
TRIAL = "try "


def field_of(text, _):
    """The field with this name."""
    return Field.named(text)


def order_of_row(text, _):
    """The order with this text."""
    return read_order(text)


def numbers_of_row(text, answers):
    """One or more numbers of the field."""
    return numbers_in(text, 0, answers.field)


def word_of_row(text, answers):
    """A word over the letters."""
    return read_word(text, answers.order.letters)


def drop_of(text, _):
    """How many answers are dropped."""
    return count_of(text, MOST_ANSWERS)


def bound_of(text, _):
    """A bound for numbers of states."""
    return count_of(text, MOST_BOUND)


def count_of(text, most):
    """The integer from 0 on, and not greater than most, with exactly this text."""
    count = integer_of(text, COUNT_DIGITS)
    if count is None or count > most:
        raise InvalidText(0)
    return count


def with_field(answers, field):
    """No answers, with another field."""
    return Answers(field, answers.order)


def with_order(answers, order):
    """No answers, with another order."""
    return Answers(answers.field, order)


def with_numbers(answers, numbers):
    """The answers with these behind them."""
    return answers.with_more(*numbers)


def without_last(answers, count):
    """The answers without the last ones."""
    if count > len(answers):
        raise OutOfRange(count)
    return answers.first(len(answers) - count)


def size_text(answers):
    """The least size."""
    return f"{answers.size}"


def basis_text(answers):
    """The words of the basis."""
    return words_text(answers.basis)


def borders_text(answers):
    """The borders."""
    return words_text(answers.borders)


def words_text(words):
    """Words behind one another."""
    return " ".join([write_word(word) for word in words]) if len(words) > 0 else NO_WORDS


def next_text(answers):
    """The next word, and whether its answer is free, or to what number and with what jump it is forced."""
    word, forced = write_word(answers.next_word), answers.forced()
    if forced is None:
        return f"{word} free"
    number, jump = forced
    return f"{word} {answers.field.text(number)} {jump}"


def dimension_text(answers):
    """The dimension of the space."""
    return f"{Space(answers).dimension}"


def machine_text(answers):
    """The first machine of the space."""
    return write_machine(Space(answers).form())


def others_text(answers):
    """The least size of a machine that agrees and has another series."""
    return f"{other_size(answers)}"


def value_text(answers, word):
    """The value of the word in the first machine of the space."""
    return answers.field.text(Space(answers).form().value_of(word))


def enough_text(answers, most):
    """How many answers are enough for the first machine of the space, with this bound."""
    return f"{enough(Space(answers).form(), answers.order, most)}"


# What stands behind the first word of a row: readers of the rest, by the answers; rows without a rest are not here.
READERS = {
    "field": field_of, "order": order_of_row, "answer": numbers_of_row, "drop": drop_of, "value": word_of_row,
    "enough": bound_of,
}
CHANGES = {"field": with_field, "order": with_order, "answer": with_numbers, "drop": without_last}
MOVES = {"undo": -1, "redo": 1}
TELLERS = {
    "size": size_text, "basis": basis_text, "borders": borders_text, "next": next_text, "dimension": dimension_text,
    "machine": machine_text, "others": others_text,
}
TELLERS_OF = {"value": value_text, "enough": enough_text}


def row_of(text, answers):
    """The first word of a row and what the rest says, None if it has no rest."""
    word, space, rest = text.partition(" ")
    if space == "":
        if word not in TELLERS and word not in MOVES:
            raise InvalidText(0)
        return word, None
    if word not in READERS:
        raise InvalidText(0)
    reader = READERS[word]
    return word, reader(rest, answers)


class Desk:
    """Answers that rows of text change and ask about."""

    def __init__(self):
        # The answers at first, behind the first row that changed them, and so on, also behind those that were taken
        # back. The list is replaced when it becomes another one, but never changed: so what was before is not lost.
        self._stages = [Answers(Fractions(), Order("ab"))]
        self._at = 0

    @property
    def answers(self):
        return self._stages[self._at]

    def say(self, row):
        """Do what the row says; the text that it answers."""
        text = row if isinstance(row, str) else ""
        try:
            word, value = row_of(text.removeprefix(TRIAL), self.answers)
        except InvalidText:
            raise InvalidRow(row) from None
        return self._tried(word, value) if text.startswith(TRIAL) else self._said(word, value)

    def _tried(self, word, value):
        """Likewise, but afterwards all is as before."""
        stages, at = self._stages, self._at
        try:
            return self._said(word, value)
        finally:
            self._stages, self._at = stages, at

    def _said(self, word, value):
        if word in CHANGES:
            change = CHANGES[word]
            self._stages = [*self._stages[:self._at + 1], change(self.answers, value)]
            self._at += 1
            return DONE
        if word in MOVES:
            return self._moved(MOVES[word])
        if word in TELLERS:
            tell = TELLERS[word]
            return tell(self.answers)
        tell_of = TELLERS_OF[word]
        return tell_of(self.answers, value)

    def _moved(self, step):
        """Take the last change back, or do it again."""
        at = self._at + step
        if not 0 <= at < len(self._stages):
            raise Nothing()
        self._at = at
        return DONE
