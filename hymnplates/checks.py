"""What may be passed as an integer or as a list, and how integers are written."""

DIGITS = "0123456789"


def is_number(value, least, greatest):
    """Whether any value is an integer from the least to the greatest; True and False are none."""
    return isinstance(value, int) and not isinstance(value, bool) and least <= value <= greatest


def is_listed(value):
    """Whether any value may stand where a list is described."""
    return isinstance(value, (list, tuple))


def is_numeral(word, width):
    """Whether the word writes an integer from 0 on, in at most so many digits."""
    # The width is looked at first, so that nobody reads an integer of thousands of digits.
    if not 1 <= len(word) <= width or not all([letter in DIGITS for letter in word]):
        return False
    return word == "0" or word[0] != "0"
