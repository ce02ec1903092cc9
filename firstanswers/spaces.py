"""Spaces: all series of the least size that agree with first answers."""

from firstanswers.checks import is_word
from firstanswers.errors import InvalidCoordinates, InvalidWord, NotFinite, OtherField, OtherLetters, TooMany
from firstanswers.least import least
from firstanswers.machines import MOST_STATES, Machine, worked
from firstanswers.mixtures import number_in
from firstanswers.polynomials import constant_of, one_of, plus_times, times_variable
from firstanswers.tables import unit_row

LONGEST_SURE = 8
MOST_VARIABLES = 6


class Space:
    """All series of the least size that agree with the answers."""

    def __init__(self, answers):
        self._answers = answers
        self._known = answers.known()
        self._field = answers.field
        self._letters = answers.order.letters
        self._basis = answers.basis
        self._borders = answers.borders
        free = [[(border, word) for word in self._known.free_words(border)] for border in self._borders]
        self._free = tuple([pair for pairs in free for pair in pairs])
        self._count = count_of_tuples(self._field.prime, len(self._free))

    @property
    def answers(self):
        return self._answers

    @property
    def free(self):
        return self._free

    @property
    def dimension(self):
        return len(self._free)

    @property
    def series_count(self):
        return self._count

    def form(self, *coordinates):
        """The normal form with these numbers for the free pairs, all of them 0 without any number."""
        return self.at(coordinates if len(coordinates) > 0 else [0] * len(self._free))

    def at(self, coordinates):
        """The normal form with this list of numbers for the free pairs."""
        if not isinstance(coordinates, (list, tuple)) or len(coordinates) != len(self._free):
            raise InvalidCoordinates()
        if not all([self._field.is_number(number) for number in coordinates]):
            raise InvalidCoordinates()
        self._check_size()
        return self._made(coordinates)

    def coordinates_of(self, machine):
        """The numbers of the free pairs for the series of a machine, None if it is not in the space."""
        if machine.field != self._field:
            raise OtherField()
        if machine.letters != self._letters:
            raise OtherLetters()
        if not self._answers.agrees(machine):
            return None
        normal = least(machine, self._answers.order)
        if normal.size != len(self._basis):
            return None
        tables, places = normal.tables, self._basis_places()
        return tuple([tables[border[-1]][places[border[:-1]]][places[word]] for border, word in self._free])

    def forms(self):
        """The normal forms of all series, ascending by their coordinates."""
        if self._count is None:
            raise NotFinite()
        self._check_size()
        coordinates = [0] * len(self._free)
        while True:
            yield self._made(coordinates)
            at = len(coordinates) - 1
            while at >= 0 and coordinates[at] == self._field.prime - 1:
                coordinates[at] = 0
                at -= 1
            if at < 0:
                return
            coordinates[at] += 1

    def has(self, value):
        """Whether any value is a machine whose series is in the space."""
        if not isinstance(value, Machine) or value.field != self._field or value.letters != self._letters:
            return False
        return self.coordinates_of(value) is not None

    def sure(self, word):
        """The value of the word if all series have the same one, otherwise None."""
        if not is_word(word, self._letters) or len(word) > LONGEST_SURE:
            raise InvalidWord(word)
        many = len(self._free)
        if many > MOST_VARIABLES:
            raise TooMany(MOST_VARIABLES)
        # The state numbers are polynomials in the coordinates.
        states = {"": one_of(many)} if len(self._basis) > 0 else {}
        for letter in word:
            states = self._states_behind(states, letter)
        value = {}
        for front, state in states.items():
            value = plus_times(self._field, value, self._answers[front], state)
        return constant_of(value, many)

    def _check_size(self):
        if len(self._basis) > MOST_STATES:
            raise TooMany(MOST_STATES)

    def _basis_places(self):
        """From the basis words to their positions."""
        return {word: at for at, word in enumerate(self._basis)}

    def _made(self, coordinates):
        """The normal form with numbers for the free pairs, which are not looked at again."""
        size, places = len(self._basis), self._basis_places()
        wanted = {border: {} for border in self._borders}
        for (border, word), number in zip(self._free, coordinates):
            wanted[border][word] = number
        tables = {}
        for letter in self._letters:
            tables[letter] = []
            for word in self._basis:
                longer = word + letter
                if longer in places:
                    tables[letter].append(unit_row(size, places[longer]))
                else:
                    numbers = self._numbers(longer, wanted[longer])
                    tables[letter].append([numbers.get(each, 0) for each in self._basis])
        ends = [self._answers[word] for word in self._basis]
        return worked(self._field, self._letters, unit_row(size, 0), tables, ends)

    def _numbers(self, border, wanted):
        """The numbers of basis words for a border, those of its free words being the wanted ones or else 0."""
        combination = self._known.steered(border, self._known.combination_of(border), wanted)
        return {word: number_in(self._field, combination, word) for word in combination[0]}

    def _states_behind(self, states, letter):
        """The state numbers, by basis words, to which the letter leads from these."""
        behind = {}
        for word, state in states.items():
            longer = word + letter
            if longer in self._basis:
                behind[longer] = plus_times(self._field, behind.get(longer, {}), 1, state)
            else:
                for variable, numbers in self._parts(longer):
                    more = state if variable is None else times_variable(self._field, state, variable)
                    for each, number in numbers.items():
                        behind[each] = plus_times(self._field, behind.get(each, {}), number, more)
        return behind

    def _parts(self, border):
        """The numbers of basis words for a border without coordinates, and what each coordinate adds to them."""
        plain = self._numbers(border, {})
        parts = [(None, plain)]
        for variable, (front, word) in enumerate(self._free):
            if front == border:
                numbers, more = self._numbers(border, {word: 1}), {}
                for each in self._basis:
                    more[each] = self._field.difference_of(numbers.get(each, 0), plain.get(each, 0))
                parts.append((variable, {each: number for each, number in more.items() if number != 0}))
        return parts


def count_of_tuples(prime, exponent):
    """How many tuples of so many numbers there are modulo the prime; None if infinitely many, over the fractions."""
    if prime is None:
        return 1 if exponent == 0 else None
    power = 1
    for _ in range(exponent):
        power = power * prime
    return power
