"""What integers, names, sequences and words for numbers are."""

DIGITS = "0123456789"
LETTERS = "abcdefghijklmnopqrstuvwxyz"


def is_whole(value):
    """Whether any value is an integer; True and False are none."""
    return isinstance(value, int) and not isinstance(value, bool)


def is_number(value):
    """Whether any value is an integer from 0 on."""
    return is_whole(value) and value >= 0


def is_positive(value):
    """Whether any value is an integer from 1 on."""
    return is_whole(value) and value >= 1


def is_name(value):
    """Whether any value is a name: 1 to 4 letters from a to z."""
    if not isinstance(value, str) or not 1 <= len(value) <= 4:
        return False
    # islower and isalpha would also take letters beyond a to z.
    return all([letter in LETTERS for letter in value])


def is_row(value):
    """Whether any value is a sequence: a list or a tuple."""
    return isinstance(value, (list, tuple))


def is_tuple_of(value, many):
    """Whether any value is a tuple of so many things."""
    return isinstance(value, tuple) and len(value) == many


def are_unlike(things):
    """Whether no integer or string of a sequence is in it twice."""
    return len(set(things)) == len(things)


def is_numeral(word):
    """Whether a word is a number of one or two digits without leading zeros."""
    if not 1 <= len(word) <= 2:
        return False
    # isdigit would also take digits beyond 0 to 9.
    if not all([digit in DIGITS for digit in word]):
        return False
    return len(word) == 1 or word[0] != "0"
