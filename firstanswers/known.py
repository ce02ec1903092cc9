"""What first answers tell of all machines that give them."""

from firstanswers.mixtures import mixed, no_mixture, number_in, single_mixture
from firstanswers.tables import row_dot


class Known:
    """First answers, which come one after the other, with the basis and the borders that follow from them.

    A basis word has a column and a rest. The rest is its row without a combination of rows of basis words before it
    whose columns are before its own one: it is 0 for all words before the column, but not for the column.
    A border has a combination of rows of basis words before it that is its known row. Of these, only words whose
    columns its known row reaches take part in it; so there is one such combination, and its numbers stay short.
    """

    def __init__(self, field, order):
        self._field = field
        self._order = order
        self._next = ""
        # From the known words, in order, to their answers and to their numbers.
        self._told = {}
        self._places = {}
        # From the basis words to their column, the value of the rest there, and the rest.
        self._entries = {}
        self._owners = {}
        self._combinations = {"": no_mixture()}
        self._sizes = [0]

    def copied(self):
        """The same answers, to which others may be added."""
        known = Known(self._field, self._order)
        known._next = self._next
        known._told = dict(self._told)
        known._places = dict(self._places)
        known._entries = dict(self._entries)
        known._owners = dict(self._owners)
        known._combinations = dict(self._combinations)
        known._sizes = list(self._sizes)
        return known

    def take(self, number):
        """One more answer, a number of any size."""
        word = self._next
        self._told[word] = number
        self._places[word] = len(self._places)
        for at in range(self._inside(word), len(word) + 1):
            if not self._take_at(word[:at], word[at:]):
                break
        self._next = self._order.after(word)
        self._sizes.append(len(self._entries))

    def next_one(self):
        """The first word that is not known."""
        return self._next

    def answers_by_words(self):
        """A dict from the known words, in order, to their answers."""
        return dict(self._told)

    def answer_to(self, word):
        """The answer to a word, None if it is not known."""
        return self._told.get(word)

    def count_known(self):
        """How many words are known."""
        return len(self._told)

    def sizes(self):
        """The sizes after 0, 1, 2, .. of the answers."""
        return list(self._sizes)

    def basis_words(self):
        """The basis, ascending."""
        return sorted(list(self._entries), key=lambda word: self._places[word])

    def border_words(self):
        """The borders, ascending."""
        words = list(self._combinations)
        return self._order.sorted_words(*words)

    def column_of(self, word):
        """The column of a basis word."""
        return self._entries[word][0]

    def left_of(self, word):
        """The value of the rest of a basis word at its column."""
        return self._entries[word][1]

    def rest_of_row(self, word):
        """The rest of a basis word, as a mixture of rows."""
        return self._entries[word][2]

    def combination_of(self, border):
        """The combination of rows that is the known row of a border."""
        return self._combinations[border]

    def is_before(self, word, border):
        """Whether a basis word is before a border."""
        # A word that is not known is behind all that are.
        return self._places[word] < self._places.get(border, len(self._places))

    def free_words(self, border):
        """The basis words before a border whose columns its known row does not reach, ascending."""
        return [word for word in self.basis_words()
                if self.is_before(word, border) and border + self.column_of(word) not in self._told]

    def steered(self, border, combination, wanted):
        """Another combination that is the known row of a border: its free words have the wanted numbers, else 0."""
        for word in reversed(list(self.free_words(border))):
            more = self._field.difference_of(wanted.get(word, 0), number_in(self._field, combination, word))
            if more != 0:
                combination = mixed(self._field, combination, more, self.rest_of_row(word))
        return combination

    def forced_number(self):
        """The answer to the next word with which the size stays; None if it stays with any."""
        word = self._next
        at = self._inside(word)
        if self._owner(word[:at], word[at:]) is not None:
            return None
        return self._sum_at(self._combinations[word[:at]], word[at:])

    def is_sure(self, most):
        """Whether any other answer to the next word than the forced one makes the size greater than this."""
        forced = self.forced_prefixes()
        return len(forced) > 0 and len(self._entries) + len(forced) > most

    def forced_prefixes(self):
        """The prefixes of the next word that are forced, the shortest one first."""
        word = self._next
        prefixes = [(word[:at], word[at:]) for at in range(self._inside(word), len(word) + 1)]
        return [front for front, back in prefixes if self._owner(front, back) is None]

    def _inside(self, word):
        """How many letters the shortest prefix has that is not in the basis."""
        at = 0
        while word[:at] in self._entries:
            at += 1
        return at

    def _owner(self, front, back):
        """The basis word before front whose column is back, None if there is none."""
        owner = self._owners.get(back)
        return owner if owner is not None and self.is_before(owner, front) else None

    def _sum_at(self, combination, back):
        """The sum of the answers to the combined words with back behind each."""
        tops, bottom = combination
        numbers = [self._told[front + back] for front in tops]
        return row_dot(self._field, (list(tops.values()), bottom), self._field.common(numbers))

    def _left_at(self, front, back, combination):
        """What the combination leaves of the answer to front with back behind it."""
        return self._field.difference_of(self._told[front + back], self._sum_at(combination, back))

    def _take_at(self, front, back):
        """Look at the last answer, to the border front with back behind it; tell if the border enters the basis."""
        combination = self._combinations[front]
        left = self._left_at(front, back, combination)
        if left == 0:
            return False
        owner = self._owner(front, back)
        if owner is None:
            self._enter(front, back, left)
            return True
        self._combinations[front] = self._corrected(combination, left, owner)
        return False

    def _corrected(self, combination, left, owner):
        """The combination with as much of the rest of a basis word as makes up for what it leaves at its column."""
        times = self._field.quotient_of(left, self.left_of(owner))
        return mixed(self._field, combination, times, self.rest_of_row(owner))

    def _enter(self, word, column, left):
        """Let a border come into the basis; the words that are a letter longer become borders."""
        combination = self._combinations.pop(word)
        self._entries[word] = (column, left, mixed(self._field, single_mixture(word), -1, combination))
        self._owners[column] = word
        for letter in self._order.letters:
            if all([front + letter in self._entries for front in combination[0]]):
                self._combinations[word + letter] = self._shifted(word + letter, combination)
            else:
                self._combinations[word + letter] = self._settled(word + letter)

    def _shifted(self, border, combination):
        """The combination for a border by that for the word without its last letter, if all words stay in the basis.

        It may leave something of the last answer, but of no other one.
        """
        tops, bottom = combination
        shifted = {front + border[-1]: top for front, top in tops.items()}
        return self.steered(border, (shifted, bottom), {})

    def _settled(self, border):
        """The combination for a border by nothing but the answers."""
        combination = no_mixture()
        for column in sorted(list(self._owners), key=lambda each: self._places[each]):
            if border + column not in self._told:
                break
            owner = self._owner(border, column)
            if owner is not None:
                left = self._left_at(border, column, combination)
                if left != 0:
                    combination = self._corrected(combination, left, owner)
        return combination


def known_of(field, order, numbers):
    """What these answers to the first words tell."""
    known = Known(field, order)
    for number in numbers:
        known.take(number)
    return known
