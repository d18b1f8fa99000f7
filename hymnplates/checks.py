"""What may be passed as an integer, as a list or as a table of amounts, and how integers are written."""

DIGITS = "0123456789"
# 10 ** 30: the greatest count, worth or price.
GREATEST = 1000000000000000000000000000000


def is_integer(value):
    """Whether any value is an integer; True and False are none."""
    return isinstance(value, int) and not isinstance(value, bool)


def is_number(value, least, greatest=None):
    """Whether any value is an integer from the least on, to the greatest if there is one."""
    if not is_integer(value) or value < least:
        return False
    return greatest is None or value <= greatest


def is_listed(value):
    """Whether any value may stand where a list is described."""
    return isinstance(value, (list, tuple))


def is_table(value, names, greatest=None):
    """Whether any value is a dict from some of the names to integers from 0 on, to the greatest if there is one."""
    if not isinstance(value, dict):
        return False
    return all([isinstance(key, str) and key in names and is_number(value[key], 0, greatest) for key in value])


def is_numeral(word, width):
    """Whether the word writes an integer from 0 on, in at most so many digits."""
    # The width is looked at first, so that nobody reads an integer of thousands of digits.
    if not 1 <= len(word) <= width or not all([letter in DIGITS for letter in word]):
        return False
    return word == "0" or word[0] != "0"
