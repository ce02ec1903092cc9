"""Open words: at which machines with few states may part from a series with which they agree before."""

from firstanswers.echelons import Echelon
from firstanswers.fields import Modulo
from firstanswers.least import LOOKED_THROUGH, independent_words, telling_columns
from firstanswers.tables import primitive, whole_dot

# More letters than any open word has.
TOO_MANY = 1000


def first_pairs(machine, order):
    """From the first rows, ascending, to their columns, all values being known."""
    field, turned = machine.field, machine.turned()
    rows = independent_words(machine, order.costs, telling_columns(machine), False)
    columns = independent_words(turned, order.costs, telling_columns(turned), True)
    # What rows and columns have for bottoms does not matter here.
    lines, others = [tops for tops, _ in rows.values()], [tops for tops, _ in columns.values()]
    places = list(range(len(lines)))
    # What is independent modulo a prime is independent over the fractions, too, so that no place can be an earlier one.
    if field.prime is not None or leading_places(Modulo(LOOKED_THROUGH), lines, others) != places:
        places = leading_places(field, lines, others)
    words = list(columns)
    return {word: words[place] for word, place in zip(rows, places)}


def leading_places(field, lines, others):
    """For each line, up to which one of the others its products with them are not a combination of earlier ones.

    None for a line with which all products are a combination.
    """
    echelon = Echelon(field, len(others))
    places = []
    for line in lines:
        values = [whole_dot(field, line, other) for other in others]
        numbers, _ = primitive(field, (values, 1))
        places.append(echelon.first_place(numbers))
    return places


def forced_prefixes_of(pairs, word):
    """The prefixes of a word that are forced if the basis so far has these words with these columns."""
    columns = list(pairs.values())
    return [word[:at] for at in range(len(word) + 1) if word[:at] not in pairs and word[at:] not in columns]


def pairs_before(order, pairs, word):
    """The pairs that are in the basis if all words before this one are known."""
    place = order.place_of(word)
    return {front: back for front, back in pairs.items() if order.place_of(front + back) < place}


def is_opening(order, pairs, word, most):
    """Whether a word is open for a series with these first rows and columns and a bound for numbers of states."""
    basis = pairs_before(order, pairs, word)
    forced = forced_prefixes_of(basis, word)
    return len(basis) + len(forced) <= most


def last_opening(order, pairs, most):
    """The last open word, None if there is none."""
    if most == 0:
        return None
    if len(pairs) == 0:
        return order.latest * (most - 1)
    # An open word with the whole basis is a first row, a first column and at most so many letters between them.
    rows, columns = list(pairs), list(pairs.values())
    return order.sorted_words(*rows)[-1] + order.latest * (most - len(pairs) + 1) + order.sorted_words(*columns)[-1]


class Stretch:
    """The words after one and up to another one, if the basis is the same whenever the words before them are known.

    Such a word is open exactly if it is a front, some letters and a back behind one another, with at most so many
    letters between. The fronts are the basis words and the backs their columns; without a basis, both are empty words.
    For a prefix is forced unless it is in the basis, or the rest of the word is a column; prefixes of basis words are
    basis words, and suffixes of their columns are columns.
    """

    def __init__(self, order, pairs, most, low, high):
        basis = pairs_before(order, pairs, high)
        self._order = order
        self._costs = order.costs
        self._fronts = basis if len(basis) > 0 else {"": ""}
        self._backs = list(self._fronts.values())
        self._between = most - len(basis) + 1 if len(basis) > 0 else most - 1
        self._low = low
        self._high = high
        self._fewest = fewest_letters(list(self._costs.values()), self.greatest_cost())
        # From the cost of the rest of a back to what may stand ahead of it there.
        self._begun_backs = {}
        for back in self._backs:
            for at in range(1, len(back) + 1):
                self._begun_backs.setdefault(self._cost_of(back[at:]), []).append(back[:at])

    def least_cost(self):
        """The cost with which the words begin."""
        return 0 if self._low is None else self._cost_of(self._low)

    def greatest_cost(self):
        """The cost with which the words end."""
        return self._cost_of(self._high)

    def longer(self, word, rest):
        """The beginnings of open words that are a letter longer than this one, which costs so much less than they.

        A list of tuples of the beginning and the cost that is left, descending.
        """
        found = []
        for letter in self._order.letters[::-1]:
            begun, left = word + letter, rest - self._costs[letter]
            if left >= 0 and self._is_inside(begun, left) and self._leads_on(begun, left):
                found.append((begun, left))
        return found

    def beginnings(self, cost):
        """The empty word, likewise, if it is the beginning of an open word of this cost."""
        return [("", cost)] if self._is_inside("", cost) and self._leads_on("", cost) else []

    def _cost_of(self, word):
        return self._order.place_of(word)[0]

    def _is_inside(self, begun, left):
        """Whether words with so much more cost that begin so may be after the low and up to the high one."""
        cost, size = self._cost_of(begun) + left, len(begun)
        if self._low is not None and cost == self.least_cost() and (begun == self._low or begun < self._low[:size]):
            return False
        return cost < self.greatest_cost() or begun <= self._high[:size]

    def _leads_on(self, begun, left):
        """Whether a word with so much more cost that begins so has the form of an open one."""
        inside = 0
        while inside < len(begun) and begun[:inside + 1] in self._fronts:
            inside += 1
        further = self._between + inside - len(begun)
        if self._letters_ahead(left) <= further:
            return True
        for back in self._begun_backs.get(left, []):
            if begun.endswith(back) and len(back) + further >= 0:
                return True
        fronts = [front for front in self._fronts if front.startswith(begun)]
        rests = [left + self._cost_of(begun) - self._cost_of(front) for front in fronts]
        return any([self._letters_ahead(rest) <= self._between for rest in rests])

    def _letters_ahead(self, cost):
        """How few letters may stand ahead of a back so that both have this cost; too many, if none may."""
        rests = [cost - self._cost_of(back) for back in self._backs]
        return min([self._fewest[rest] for rest in rests if rest >= 0], default=TOO_MANY)


def stretches_of(order, pairs, most):
    """The stretches in which there are open words, ascending."""
    last = last_opening(order, pairs, most)
    if last is None:
        return []
    words = [front + back for front, back in pairs.items()]
    stretches = []
    low = None
    for high in order.sorted_words(*words, last):
        stretches.append(Stretch(order, pairs, most, low, high))
        low = high
    return stretches


def fewest_letters(costs, most):
    """For each cost up to this one, how few letters a word of this cost may have; too many, if there is none."""
    fewest = [0]
    for cost in range(1, most + 1):
        before = [fewest[cost - each] for each in costs if each <= cost]
        fewest.append(min(before, default=TOO_MANY) + 1)
    return fewest
