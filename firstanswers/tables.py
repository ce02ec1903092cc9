"""Rows and tables of numbers of a field, of any size.

A whole row is a row of numbers in the form that Field.common gives: integers, and the one bottom below
all of them. A step is a square table in the same form, by columns. Going from whole row to whole row
by steps needs nothing but integers: shortening fractions of thousands of digits would take far longer.
Modulo a prime, the bottom is 1, and the integers stay below the prime.
"""

from math import gcd


def step_of(field, table):
    """The step of a square table."""
    size = len(table)
    tops, bottom = field.common([number for row in table for number in row])
    return [tops[at::size] for at in range(size)], bottom


def row_after(field, row, step):
    """The whole row times the table of the step."""
    tops, bottom = row
    columns, below = step
    return [whole_dot(field, tops, column) for column in columns], bottom * below


def squared(field, step):
    """The step that is as good as two of this one."""
    columns, bottom = step
    rows = turned_table(columns)
    return [[whole_dot(field, row, column) for row in rows] for column in columns], bottom * bottom


def row_after_many(field, row, step, times):
    """The whole row times the table of the step, so many times."""
    while times > 0:
        if times & 1 == 1:
            row = row_after(field, row, step)
        times = times // 2
        if times > 0:
            step = squared(field, step)
    return row


def whole_dot(field, one, other):
    """The sum of the products of integers, place by place."""
    return field.ratio(sum([x * y for x, y in zip(one, other)]), 1)


def row_dot(field, one, other):
    """The sum of the products of two whole rows, place by place: a number."""
    tops, bottom = one
    above, below = other
    return field.ratio(whole_dot(field, tops, above), bottom * below)


def dot(field, one, other):
    """The sum of the products of two rows, place by place."""
    return row_dot(field, field.common(one), field.common(other))


def numbers_of(field, row):
    """The numbers of a whole row."""
    tops, bottom = row
    return [field.ratio(top, bottom) for top in tops]


def turned_table(table):
    """The table with its columns as rows."""
    return [list(column) for column in zip(*table)]


def content_of(numbers):
    """The greatest common divisor of integers, 0 if all of them are 0."""
    divisor = 0
    for number in numbers:
        divisor = gcd(divisor, number)
        if divisor == 1:
            break
    return divisor


def shortened_row(row):
    """The whole row with the least bottom."""
    tops, bottom = row
    divisor = gcd(content_of(tops), bottom) if bottom != 1 else 1
    return (tops, bottom) if divisor == 1 else ([top // divisor for top in tops], bottom // divisor)


def primitive(field, row):
    """Integers without a common divisor, and the number with which they are this whole row."""
    tops, bottom = row
    content = content_of(tops) if field.prime is None else 1
    if content > 1:
        tops = [top // content for top in tops]
    return list(tops), field.ratio(max(content, 1), bottom)


def unit_row(size, place):
    """A row of zeros, but for a one at this place."""
    return [1 if at == place else 0 for at in range(size)]


def zero_table(height, width):
    """So many rows of so many zeros."""
    return [[0] * width for _ in range(height)]


def scaled_row(field, row, number):
    """A row times a number."""
    return [field.product_of(number, each) for each in row]


def crossed_row(field, one, other):
    """The products of each number of one row with each number of the other one."""
    return [field.product_of(x, y) for x in one for y in other]


def crossed_table(field, one, other):
    """The crossed rows of each row of one table with each row of the other one."""
    return [crossed_row(field, row, line) for row in one for line in other]


def joined_table(one, other, link):
    """Two tables as the two blocks of one; the link leads from the places of the first one to the other's."""
    upper = [[*row, *more] for row, more in zip(one, link)]
    return upper + [[0] * len(one) + list(row) for row in other]
