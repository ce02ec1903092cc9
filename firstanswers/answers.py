"""First answers, and the least machines that give them."""

from firstanswers.checks import is_between
from firstanswers.errors import InvalidAnswer, InvalidCount, InvalidNumber, NotKnown, OtherField, OtherLetters
from firstanswers.errors import OutOfRange, TooMany
from firstanswers.known import Known, known_of

MOST_ANSWERS = 150
MOST_FRACTIONS = 60


class Answers:
    """The answers to the first words of an order; they never change."""

    def __init__(self, field, order, *values):
        # What the program worked out itself may have numbers of any size, and is not looked at again.
        if len(values) == 1 and isinstance(values[0], Known):
            self._known = values[0]
        else:
            check_numbers(field, values, 0)
            self._known = known_of(field, order, values)
        self._field = field
        self._order = order
        self._answers = self._known.answers_by_words()
        self._next = self._known.next_one()
        self._basis = tuple(self._known.basis_words())
        self._columns = tuple([self._known.column_of(word) for word in self._basis])
        self._borders = tuple(self._known.border_words())

    @classmethod
    def given(cls, field, order, numbers):
        """The same, of a list of answers."""
        return Answers(field, order, *numbers)

    @classmethod
    def of(cls, machine, order, many):
        """The first so many values of a machine."""
        if machine.letters != order.letters:
            raise OtherLetters()
        if not is_between(many, 0, most_answers(machine.field)):
            raise InvalidCount(many)
        return worked_answers(machine.field, order, machine.first_values(order, many))

    @property
    def field(self):
        return self._field

    @property
    def order(self):
        return self._order

    @property
    def numbers(self):
        return tuple(list(self._answers.values()))

    @property
    def next_word(self):
        return self._next

    @property
    def size(self):
        return len(self._basis)

    @property
    def basis(self):
        return self._basis

    @property
    def columns(self):
        return self._columns

    @property
    def borders(self):
        return self._borders

    def __len__(self):
        return len(self._answers)

    def __getitem__(self, word):
        if word not in self:
            raise NotKnown(word)
        return self._answers[word]

    def __contains__(self, value):
        return isinstance(value, str) and value in self._answers

    def __iter__(self):
        raise TypeError("answers are not iterated over: take their numbers")

    def __eq__(self, other):
        return (isinstance(other, Answers) and self._field == other._field and self._order == other._order
                and self.numbers == other.numbers)

    def forced(self):
        """The forced answer to the next word, and by how many states another one makes the size grow.

        None if the next answer is free.
        """
        number, prefixes = self._known.forced_number(), self._known.forced_prefixes()
        return None if number is None else (number, len(prefixes))

    def size_with(self, number):
        """The size after this next answer."""
        if not self._field.is_number(number):
            raise InvalidNumber(number)
        forced = self.forced()
        if forced is None or number == forced[0]:
            return self.size
        return self.size + forced[1]

    def with_more(self, *values):
        """These answers, and more behind them."""
        check_numbers(self._field, values, len(self._answers))
        known = self._known.copied()
        for value in values:
            known.take(value)
        return Answers(self._field, self._order, known)

    def first(self, count):
        """The answers to the first so many words."""
        if not is_between(count, 0, len(self._answers)):
            raise OutOfRange(count)
        return worked_answers(self._field, self._order, self.numbers[:count])

    def corrected(self, word, number):
        """The answers with another one for a known word."""
        if word not in self:
            raise NotKnown(word)
        if not self._field.is_number(number):
            raise InvalidNumber(number)
        answers = dict(self._answers)
        answers[word] = number
        return worked_answers(self._field, self._order, list(answers.values()))

    def in_order(self, order):
        """The answers to the first words of another order, as far as they are known one after the other."""
        if order.letters != self._order.letters:
            raise OtherLetters()
        numbers = []
        for word in order.words():
            if word not in self._answers:
                break
            numbers.append(self._answers[word])
        return worked_answers(self._field, order, numbers)

    def profile(self):
        """The sizes after 0, 1, 2, .. of the answers."""
        return tuple(self._known.sizes())

    def growths(self):
        """The words whose answer made the size grow, with the sizes before and after it."""
        sizes = self._known.sizes()
        for at, word in enumerate(list(self._answers)):
            if sizes[at] < sizes[at + 1]:
                yield (word, sizes[at], sizes[at + 1])

    def agrees(self, machine):
        """Whether the machine has the same field and letters, and these values."""
        if machine.field != self._field or machine.letters != self._order.letters:
            return False
        return self.mistakes(machine) == []

    def mistakes(self, machine):
        """The known words with another value in the machine."""
        if machine.field != self._field:
            raise OtherField()
        values = machine.first_values(self._order, len(self._answers))
        return [word for word, value in zip(self._answers, values) if value != self._answers[word]]

    def known(self):
        """What the answers tell of all machines that agree; not to be changed."""
        return self._known


def most_answers(field):
    """How many answers there may be."""
    return MOST_FRACTIONS if field.prime is None else MOST_ANSWERS


def check_numbers(field, values, before):
    """Raise the error for more answers, any values, behind so many others, if they cannot stand there."""
    for at, value in enumerate(values):
        if not field.is_number(value):
            raise InvalidAnswer(before + at)
    most = most_answers(field)
    if before + len(values) > most:
        raise TooMany(most)


def worked_answers(field, order, numbers):
    """The answers of numbers that the program worked out or has looked at: they may be of any size."""
    return Answers(field, order, known_of(field, order, numbers))
