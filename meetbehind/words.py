"""Numbers in the words of a text."""

DIGITS = "0123456789"


def number_of(word, least, most):
    """The integer that a word writes in digits without leading zeros, or None if it is none within the bounds."""
    # the length is asked before the word becomes a number: a word may have thousands of digits
    if not 1 <= len(word) <= len(str(most)):
        return None
    if not all([sign in DIGITS for sign in word]):
        return None
    if len(word) > 1 and word[0] == "0":
        return None
    number = int(word)
    return number if least <= number <= most else None
