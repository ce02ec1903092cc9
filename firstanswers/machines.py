"""Machines with weights: they read a word and tell a number."""

from firstanswers.checks import is_between, is_letters, is_word
from firstanswers.errors import InvalidCount, InvalidLetters, InvalidMachine, InvalidNumber, InvalidWord
from firstanswers.errors import OtherField, OtherLetters, TooMany
from firstanswers.fields import Field, Modulo
from firstanswers.tables import crossed_row, crossed_table, dot, joined_table, numbers_of, row_after, row_after_many
from firstanswers.tables import row_dot, scaled_row, step_of, turned_table, unit_row, zero_table

MOST_STATES = 24
MOST_VALUES = 1000
MOST_RINGS = 10 ** 30
MOST_RINGS_OF_FRACTIONS = 60


class Worked:
    """Start numbers that the program worked out itself, with tables and ends that fit them.

    A machine that is returned may have numbers that are too long for one that is passed.
    """

    def __init__(self, start):
        self.start_row = start


class Machine:
    """A machine with weights; it never changes."""

    def __init__(self, field, letters, start, tables, ends):
        if isinstance(start, Worked):
            start = start.start_row
        else:
            check_parts(field, letters, start, tables, ends)
        self._field = field
        self._letters = letters
        self._start = tuple(start)
        self._ends = tuple(ends)
        self._tables = {letter: tuple([tuple(row) for row in tables[letter]]) for letter in letters}
        self._steps = {letter: step_of(field, self._tables[letter]) for letter in letters}

    @classmethod
    def zero(cls, field, letters):
        """The machine without states: each word has the value 0."""
        return cls(field, letters, [], {letter: [] for letter in letters}, [])

    @classmethod
    def constant(cls, field, letters, number):
        """A machine of one state: each word has this value."""
        if not field.is_number(number):
            raise InvalidNumber(number)
        return cls(field, letters, [number], {letter: [[1]] for letter in letters}, [1])

    @classmethod
    def of_word(cls, field, letters, word):
        """A machine whose value is 1 for the word and 0 for all others."""
        if not is_word(word, letters):
            raise InvalidWord(word)
        size = len(word) + 1
        if size > MOST_STATES:
            raise TooMany(MOST_STATES)
        tables = {letter: zero_table(size, size) for letter in letters}
        for at, letter in enumerate(word):
            tables[letter][at][at + 1] = 1
        return cls(field, letters, unit_row(size, 0), tables, unit_row(size, size - 1))

    @property
    def field(self):
        return self._field

    @property
    def letters(self):
        return self._letters

    @property
    def size(self):
        return len(self._start)

    @property
    def start(self):
        return self._start

    @property
    def ends(self):
        return self._ends

    @property
    def tables(self):
        return {letter: self._tables[letter] for letter in self._letters}

    def __eq__(self, other):
        return (isinstance(other, Machine) and self._field == other._field and self._letters == other._letters
                and self._start == other._start and self._ends == other._ends and self._tables == other._tables)

    def value_of(self, word):
        """The value of the word."""
        self._check_words(word)
        return self._value_at(self._row_behind(word))

    def state_after(self, word):
        """The state numbers after the word."""
        self._check_words(word)
        return tuple(numbers_of(self._field, self._row_behind(word)))

    def first_values(self, order, many):
        """The values of the first so many words."""
        if order.letters != self._letters:
            raise OtherLetters()
        if not is_between(many, 0, MOST_VALUES):
            raise InvalidCount(many)
        values = []
        rows = {}
        for word in order.words():
            if len(values) == many:
                break
            # The word without its last letter is before it, so its row is here.
            rows[word] = self._row_after(rows[word[:-1]], word[-1]) if word != "" else self._row_behind("")
            values.append(self._value_at(rows[word]))
        return values

    def __add__(self, other):
        self._check_partner(other, self.size + other.size)
        return self.beside(other, other.ends)

    def __sub__(self, other):
        self._check_partner(other, self.size + other.size)
        return self.beside(other, [self._field.negative_of(number) for number in other.ends])

    def __mul__(self, other):
        self._check_partner(other, self.size * other.size)
        field, others = self._field, other.tables
        return worked(
            field, self._letters, crossed_row(field, self._start, other.start),
            {letter: crossed_table(field, self._tables[letter], others[letter]) for letter in self._letters},
            crossed_row(field, self._ends, other.ends))

    def beside(self, other, ends):
        """Both machines side by side, the other one with these end numbers, whatever their number of states."""
        link, others = zero_table(self.size, other.size), other.tables
        tables = {letter: joined_table(self._tables[letter], others[letter], link) for letter in self._letters}
        return worked(self._field, self._letters, [*self._start, *other.start], tables, [*self._ends, *ends])

    def scaled(self, number):
        """A machine whose values are these, times the number."""
        if not self._field.is_number(number):
            raise InvalidNumber(number)
        return self._with_ends(scaled_row(self._field, self._ends, number))

    def turned(self):
        """A machine whose value of a word is that of the word read backwards."""
        tables = {letter: turned_table(self._tables[letter]) for letter in self._letters}
        return worked(self._field, self._letters, self._ends, tables, self._start)

    def behind(self, word):
        """A machine whose value of x is that of word + x."""
        return worked(self._field, self._letters, self.state_after(word), self._tables, self._ends)

    def ahead(self, word):
        """A machine whose value of x is that of x + word."""
        self._check_words(word)
        return self._with_ends(self.turned().state_after(word[::-1]))

    def followed(self, other):
        """A machine whose value sums up (value of u) times (other's value of v) over all ways to write a word as uv."""
        self._check_partner(other, self.size + other.size)
        field, others = self._field, other.tables
        # The other's states hold the sum over all ways so far: each word adds a way that ends with it.
        tables = {}
        for letter in self._letters:
            values = [dot(field, row, self._ends) for row in self._tables[letter]]
            link = [scaled_row(field, other.start, value) for value in values]
            tables[letter] = joined_table(self._tables[letter], others[letter], link)
        first_way = scaled_row(field, other.start, dot(field, self._start, self._ends))
        return worked(field, self._letters, [*self._start, *first_way], tables, [0] * self.size + list(other.ends))

    def read_as(self, **words):
        """A machine over the names of the keywords, each of which is read as its word."""
        names = sorted(list(words))
        if not is_letters("".join(names)) or not all([len(name) == 1 for name in names]):
            raise InvalidLetters(names)
        for name in names:
            self._check_words(words[name])
        tables = {}
        for name in names:
            tables[name] = [numbers_of(self._field, row) for row in self._rows_behind(words[name])]
        return worked(self._field, "".join(names), self._start, tables, self._ends)

    def ring_value(self, front, ring, times, back):
        """The value of front, so many copies of ring, and back behind one another."""
        self._check_words(front, ring, back)
        most = MOST_RINGS_OF_FRACTIONS if self._field.prime is None else MOST_RINGS
        if not is_between(times, 0, most):
            raise InvalidCount(times)
        if self.size == 0:
            return 0
        row = self._row_behind(front)
        if times <= self.size:
            # Few copies are read faster than the table of the ring is worked out.
            row = self._row_after(row, ring * times)
        else:
            row = row_after_many(self._field, row, self._step_behind(ring), times)
        return self._value_at(self._row_after(row, back))

    def reduced(self, prime):
        """This machine over the fractions with its numbers taken modulo the prime."""
        if self._field.prime is not None:
            raise OtherField()
        field = Modulo(prime)
        start = [field.taken(number) for number in self._start]
        tables = {}
        for letter in self._letters:
            tables[letter] = [[field.taken(number) for number in row] for row in self._tables[letter]]
        return worked(field, self._letters, start, tables, [field.taken(number) for number in self._ends])

    def _check_words(self, *values):
        for value in values:
            if not is_word(value, self._letters):
                raise InvalidWord(value)

    def _check_partner(self, other, size):
        if other.field != self._field:
            raise OtherField()
        if other.letters != self._letters:
            raise OtherLetters()
        if size > MOST_STATES:
            raise TooMany(MOST_STATES)

    def _row_after(self, row, word):
        """The whole row of state numbers to which a word of any length leads from this one."""
        for letter in word:
            row = row_after(self._field, row, self._steps[letter])
        return row

    def _row_behind(self, word):
        """The whole row of state numbers after the word."""
        return self._row_after(self._field.common(self._start), word)

    def _rows_behind(self, word):
        """The whole rows of the table that stands for the word; all of them have the same bottom."""
        return [self._row_after((unit_row(self.size, at), 1), word) for at in range(self.size)]

    def _step_behind(self, word):
        """The step of the table that stands for the word, for a machine with states."""
        rows = self._rows_behind(word)
        return turned_table([tops for tops, _ in rows]), rows[0][1]

    def _value_at(self, row):
        """The value of a word with this whole row behind it."""
        return row_dot(self._field, row, self._field.common(self._ends))

    def _with_ends(self, ends):
        return worked(self._field, self._letters, self._start, self._tables, ends)


def worked(field, letters, start, tables, ends):
    """The machine of parts that the program worked out, whose numbers may be of any size."""
    return Machine(field, letters, Worked(start), tables, ends)


def check_parts(field, letters, start, tables, ends):
    """Raise the error for the first part, all of them any values, that is not one of a machine."""
    if not isinstance(field, Field):
        raise InvalidMachine("field")
    if not is_letters(letters):
        raise InvalidMachine("letters")
    if not is_row(field, start):
        raise InvalidMachine("start")
    size = len(start)
    if not is_row(field, ends) or len(ends) != size:
        raise InvalidMachine("ends")
    if not isinstance(tables, dict) or len(tables) != len(letters):
        raise InvalidMachine("tables")
    for letter in letters:
        if letter not in tables or not is_table(field, tables[letter], size):
            raise InvalidMachine("tables")
    if size > MOST_STATES:
        raise TooMany(MOST_STATES)


def is_row(field, value):
    """Whether any value is a list of numbers of the field."""
    return isinstance(value, (list, tuple)) and all([field.is_number(number) for number in value])


def is_table(field, value, size):
    """Whether any value is a list of so many rows of as many numbers."""
    if not isinstance(value, (list, tuple)) or len(value) != size:
        return False
    return all([is_row(field, row) and len(row) == size for row in value])
