"""Walks over words, in order, with the states of a machine after them."""

from heapq import heappop, heappush

from firstanswers.tables import row_after, shortened_row, step_of


class Walk:
    """Words in the order of some costs, with the states after them.

    It begins with the empty word and reaches the words that are a letter longer than one it goes on from.
    A walk backwards puts letters ahead: it takes a turned machine.
    """

    def __init__(self, machine, costs, is_backwards):
        self._field = machine.field
        self._costs = costs
        self._is_backwards = is_backwards
        self._start = self._field.common(machine.start)
        self._steps = {letter: step_of(self._field, table) for letter, table in machine.tables.items()}
        # Where words come from: the states after them are not worked out before they are asked for.
        self._sources = {}
        self._queue = [(0, "")]

    def is_over(self):
        """Whether no word is left."""
        return self._queue == []

    def take_first(self):
        """The first word that is left, and the whole row of state numbers after it; now it is left no longer."""
        _, word = heappop(self._queue)
        if word == "":
            return word, self._start
        row, letter = self._sources.pop(word)
        return word, self.row_behind(row, letter)

    def go_on(self, word, row):
        """Reach the words that are a letter longer than this one, behind which there is this whole row."""
        cost = sum([self._costs[letter] for letter in word])
        for letter in self._steps:
            longer = letter + word if self._is_backwards else word + letter
            self._sources[longer] = (row, letter)
            heappush(self._queue, (cost + self._costs[letter], longer))

    def row_behind(self, row, letter):
        """The whole row to which the letter leads from this one."""
        return shortened_row(row_after(self._field, row, self._steps[letter]))
