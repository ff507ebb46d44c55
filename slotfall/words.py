"""Numbers as words of a text."""

DIGITS = "0123456789"


def is_number(word):
    """True for decimal digits without a sign and without leading zeros."""
    if word == "" or (word[0] == "0" and word != "0"):
        return False
    return all([character in DIGITS for character in word])


def is_number_below(word, bound):
    """True for a number that is less than the bound."""
    # The length is looked at first, because `int` refuses a word of many thousands of digits.
    return is_number(word) and len(word) <= len(str(bound)) and int(word) < bound
