"""Mixtures: combinations of words, perhaps of their rows, perhaps of their columns.

A mixture is a dict from words to integers other than 0, and the one bottom below all of them, as short as
possible. Modulo a prime, the bottom is 1, and the integers stay below the prime.
"""

from math import gcd, lcm

from firstanswers.fields import parts


def no_mixture():
    """The combination of no words."""
    return {}, 1


def single_mixture(word):
    """One time this word."""
    return {word: 1}, 1


def mixed(field, mixture, number, other):
    """The first mixture, and so many times the other one."""
    tops, bottom = mixture
    others, below = other
    if field.prime is not None:
        return mixed_modulo(field.prime, tops, number, others), 1
    top, under = parts(number)
    whole = lcm(bottom, under * below)
    times, more = whole // bottom, top * (whole // (under * below))
    found = {word: times * each for word, each in tops.items()}
    for word, each in others.items():
        found[word] = found.get(word, 0) + more * each
    return shortened_mixture(beside_zero(found), whole)


def mixed_modulo(prime, tops, number, others):
    """The same modulo a prime."""
    found = dict(tops)
    for word, each in others.items():
        found[word] = (found.get(word, 0) + number * each) % prime
    return beside_zero(found)


def beside_zero(tops):
    """The words with another integer than 0."""
    return {word: top for word, top in tops.items() if top != 0}


def shortened_mixture(tops, bottom):
    """The mixture with the least bottom."""
    divisor = bottom
    for top in tops.values():
        if divisor == 1:
            return tops, bottom
        divisor = gcd(divisor, top)
    return {word: top // divisor for word, top in tops.items()}, bottom // divisor


def number_in(field, mixture, word):
    """How many times the word is in the mixture."""
    tops, bottom = mixture
    return field.ratio(tops.get(word, 0), bottom)
