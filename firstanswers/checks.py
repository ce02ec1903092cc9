"""Whether any value is an integer, letters or a word."""

LONGEST_WORD = 160
MOST_LETTERS = 4


def is_integer(value):
    """Whether any value is an integer: True and False are none."""
    return isinstance(value, int) and not isinstance(value, bool)


def is_between(value, low, high):
    """Whether any value is an integer from low to high."""
    return is_integer(value) and low <= value <= high


def is_letters(value):
    """Whether any value is a string of 1 to 4 different characters from a to z, ascending."""
    if not isinstance(value, str) or not 1 <= len(value) <= MOST_LETTERS:
        return False
    return list(value) == sorted(set(value)) and all(["a" <= letter <= "z" for letter in value])


def is_word(value, letters):
    """Whether any value is a word over the letters that may be passed."""
    if not isinstance(value, str) or len(value) > LONGEST_WORD:
        return False
    # Stripping stops at the first character from either end that is not one of the letters.
    return value.strip(letters) == ""
