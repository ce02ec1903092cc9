"""Polynomials: dicts from tuples of exponents to numbers of a field other than 0.

Modulo a prime p they are functions: x to the power of p is x, so that each exponent is below p, and the functions
are equal exactly if the polynomials are.
"""


def one_of(many):
    """The polynomial in so many variables that is always 1."""
    return {(0,) * many: 1}


def plus_times(field, one, number, other):
    """The first polynomial, and so many times the other one."""
    found = dict(one)
    for exponents, each in other.items():
        more = field.product_of(number, each)
        found[exponents] = field.sum_of(found.get(exponents, 0), more)
    return {exponents: each for exponents, each in found.items() if each != 0}


def times_variable(field, polynomial, variable):
    """The polynomial times the variable at this place."""
    found = {}
    for exponents, number in polynomial.items():
        power = exponents[variable] + 1
        if power == field.prime:
            power = 1
        more = exponents[:variable] + (power,) + exponents[variable + 1:]
        found[more] = field.sum_of(found.get(more, 0), number)
    return {exponents: number for exponents, number in found.items() if number != 0}


def constant_of(polynomial, many):
    """The number that the polynomial in so many variables always is, None if it is not always the same."""
    if any([any(exponents) for exponents in polynomial]):
        return None
    return polynomial.get((0,) * many, 0)
