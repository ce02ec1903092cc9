"""Words in the order of their costs."""

from math import gcd

from firstanswers.checks import LONGEST_WORD, is_between, is_integer, is_letters, is_word
from firstanswers.errors import InvalidCost, InvalidCount, InvalidLetters, InvalidWord, OutOfRange

GREATEST_COST = 9
GREATEST_COUNT = 1000
# Schur's bound: with least cost x and greatest cost y, each multiple of their common divisor is the cost of a word
# from (x - 1) * (y - 1) on. Costs are at most 9, and if x is y, all multiples of it are.
SETTLED = 56


class Order:
    """The order of the words over some letters, by the costs of the letters."""

    def __init__(self, letters, **costs):
        if not is_letters(letters):
            raise InvalidLetters(letters)
        for name in sorted(list(costs)):
            if name not in list(letters) or not is_between(costs[name], 1, GREATEST_COST):
                raise InvalidCost(name)
        self._letters = letters
        self._costs = {letter: costs.get(letter, 1) for letter in letters}
        self._divisor = divisor_of(list(self._costs.values()))
        self._few = few_costs(list(self._costs.values()))

    @classmethod
    def of_costs(cls, costs):
        """The order by a dict from all letters to their costs."""
        if not isinstance(costs, dict) or not all([isinstance(name, str) and len(name) == 1 for name in costs]):
            raise InvalidLetters(costs)
        letters = "".join(sorted(list(costs)))
        if not is_letters(letters):
            raise InvalidLetters(costs)
        return Order(letters, **costs)

    @property
    def letters(self):
        return self._letters

    @property
    def costs(self):
        return dict(self._costs)

    @property
    def latest(self):
        greatest = max(list(self._costs.values()))
        return [letter for letter in self._letters if self._costs[letter] == greatest][-1]

    def __eq__(self, other):
        return isinstance(other, Order) and self._costs == other._costs

    def __contains__(self, value):
        return is_word(value, self._letters)

    def cost(self, word):
        """The sum of the costs of the letters."""
        self._check(word)
        return self._cost_of(word)

    def number_of(self, word):
        """How many words are before this one."""
        self._check(word)
        return self.count_before(word)

    def count_before(self, word):
        """How many words are before this one, however long it is."""
        rest = self._cost_of(word)
        counts = self._counts(rest)
        number = sum(counts[:rest])
        for letter in word:
            for smaller in self._letters[:self._letters.index(letter)]:
                number += self._ways(counts, rest, smaller)
            rest -= self._costs[letter]
        return number

    def place_of(self, word):
        """What words, however long they are, are ordered by."""
        return self._cost_of(word), word

    def is_before(self, word, other):
        """Whether the first word is before the second one."""
        self._check(word, other)
        return self.place_of(word) < self.place_of(other)

    def sorted_words(self, *words):
        """These words, ascending, without duplicates."""
        self._check(*words)
        places = sorted({self.place_of(word) for word in words})
        return [word for _, word in places]

    def word_at(self, number):
        """The word with this number."""
        if not is_integer(number) or number < 0:
            raise OutOfRange(number)
        rest = number
        counts = []
        for cost in range(LONGEST_WORD * GREATEST_COST + 1):
            counts.append(self._next_count(counts))
            if rest < counts[cost]:
                word = self._ranked(cost, rest, counts)
                break
            rest -= counts[cost]
        else:
            # Words up to the longest one have no greater costs.
            raise OutOfRange(number)
        if len(word) > LONGEST_WORD:
            raise OutOfRange(number)
        return word

    def after(self, word):
        """The next word."""
        self._check(word)
        return self._neighbour(word, self._letters, 1)

    def before(self, word):
        """The previous word, None for the empty one."""
        self._check(word)
        return self._neighbour(word, self._letters[::-1], -1)

    def count_words(self, cost):
        """How many words have exactly this cost."""
        if not is_between(cost, 0, GREATEST_COUNT):
            raise InvalidCount(cost)
        return self._counts(cost)[cost]

    def words(self, word=""):
        """This word and all words after it, in order, without end."""
        self._check(word)
        while True:
            yield word
            word = self._neighbour(word, self._letters, 1)

    def spread(self, first, last):
        """The words from the first to the last one, both included."""
        self._check(first, last)
        if self.place_of(last) < self.place_of(first):
            return
        for word in self.words(first):
            yield word
            if word == last:
                return

    def _check(self, *values):
        for value in values:
            if not is_word(value, self._letters):
                raise InvalidWord(value)

    def _cost_of(self, word):
        return sum([self._costs[letter] for letter in word])

    def _next_count(self, counts):
        """How many words have the cost behind the counted ones."""
        if counts == []:
            return 1
        return sum([self._ways(counts, len(counts), letter) for letter in self._letters])

    def _counts(self, most):
        """How many words have the costs from 0 to most."""
        counts = []
        for _ in range(most + 1):
            counts.append(self._next_count(counts))
        return counts

    def _ways(self, counts, cost, letter):
        """How many words of this cost begin with the letter."""
        left = cost - self._costs[letter]
        return counts[left] if left >= 0 else 0

    def _ranked(self, cost, rank, counts):
        """The word that so many words of the same cost are before."""
        found = []
        while cost > 0:
            for letter in self._letters:
                ways = self._ways(counts, cost, letter)
                if rank < ways:
                    break
                rank -= ways
            found.append(letter)
            cost -= self._costs[letter]
        return "".join(found)

    def _has_words(self, cost):
        """Whether there is a word of this cost."""
        if cost < SETTLED:
            return cost >= 0 and self._few[cost]
        return cost % self._divisor == 0

    def _neighbour(self, word, letters, step):
        """The nearest word to one side, None if there is none.

        To the side of the later words, the letters are ascending and the step is 1;
        to the other one, they are descending and it is -1.
        """
        rest = 0
        for at in range(len(word) - 1, -1, -1):
            rest += self._costs[word[at]]
            for letter in letters[letters.index(word[at]) + 1:]:
                left = rest - self._costs[letter]
                if self._has_words(left):
                    return word[:at] + letter + self._outermost(left, letters)
        rest += step
        while rest > 0 and not self._has_words(rest):
            rest += step
        return self._outermost(rest, letters) if rest >= 0 else None

    def _outermost(self, cost, letters):
        """The word of this cost that comes first if letters are in this order."""
        found = []
        while cost > 0:
            for letter in letters:
                if self._has_words(cost - self._costs[letter]):
                    break
            found.append(letter)
            cost -= self._costs[letter]
        return "".join(found)


def divisor_of(numbers):
    """The greatest common divisor."""
    divisor = 0
    for number in numbers:
        divisor = gcd(divisor, number)
    return divisor


def few_costs(steps):
    """For each cost below the settled ones, whether it is a sum of these steps."""
    few = [True]
    for cost in range(1, SETTLED):
        few.append(any([step <= cost and few[cost - step] for step in steps]))
    return few
