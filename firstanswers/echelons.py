"""Rows of integers, of which none is a combination of the others."""

from firstanswers.fields import inverse, parts
from firstanswers.tables import primitive, unit_row


class Echelon:
    """Rows of integers that clear other rows, for one field.

    The first places of each row, as many as the width, decide whether it is a combination of others;
    what stands behind them goes along. Over the fractions, rows are cleared in Bareiss' way: all numbers
    are determinants of numbers that were put in, so each division comes out even. Shortening fractions
    instead would take far longer.
    """

    def __init__(self, field, width):
        self._prime = field.prime
        self._width = width
        self._places = []
        self._rows = []

    def takes(self, row):
        """Keep the row if it is not a combination of those that are kept; tell whether it was kept."""
        rest = self.rest_of(row)
        places = [place for place in range(self._width) if rest[place] != 0]
        if len(places) == 0:
            return False
        # Any of these places will do; a small number there makes what it clears grow less.
        self._keep(min(places, key=lambda place: abs(rest[place])), rest)
        return True

    def first_place(self, row):
        """Keep the row if it is not a combination of those that are kept; the first place of what is left of it.

        None if nothing is left. If all rows are kept in this way, the row is not a combination of others up to this
        place, but up to all places before it.
        """
        rest = self.rest_of(row)
        for place in range(self._width):
            if rest[place] != 0:
                self._keep(place, rest)
                return place
        return None

    def rest_of(self, row):
        """Some times (not 0 times) the row, without a combination of the rows that are kept.

        It is zero in all places that decide if the row is a combination.
        """
        if self._prime is not None:
            return self._rest_modulo(row)
        divisor = last = 1
        for place, kept in zip(self._places, self._rows):
            times, last = row[place], kept[place]
            if times != 0:
                row = [(last * x - times * y) // divisor for x, y in zip(row, kept)]
                divisor = last
        # Where nothing was to be cleared, a step only multiplies the row; it is made up for here.
        return row if divisor == last else [x * last // divisor for x in row]

    def _rest_modulo(self, row):
        for place, kept in zip(self._places, self._rows):
            times = row[place]
            if times != 0:
                row = [(x - times * y) % self._prime for x, y in zip(row, kept)]
        return row

    def _keep(self, place, rest):
        if self._prime is not None:
            times = inverse(rest[place], self._prime)
            rest = [x * times % self._prime for x in rest]
        self._places.append(place)
        self._rows.append(rest)


def solved(field, rows, targets):
    """For each target, the numbers with which it is a combination of the rows.

    All of them are whole rows; the rows are independent, and each target is a combination of them.
    """
    many = len(rows)
    width = len(rows[0][0]) if many > 0 else 0
    echelon = Echelon(field, width)
    scales = []
    for at, row in enumerate(rows):
        tops, scale = primitive(field, row)
        scales.append(parts(scale))
        echelon.takes(tops + unit_row(many + 1, at))
    found = []
    for target in targets:
        tops, scale = primitive(field, target)
        above, below = parts(scale)
        marks = echelon.rest_of(tops + unit_row(many + 1, many))[width:]
        # One ratio of all factors is shortened once: the marks may have very many digits.
        found.append([field.ratio(-mark * above * under, marks[many] * below * over)
                      for mark, (over, under) in zip(marks, scales)])
    return found
