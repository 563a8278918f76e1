"""Reading what stands in lines of text."""

from lampward.num.writing import MOST_DIGITS


def read_number(text, most):
    """Return the integer from 0 to most of which this is the text, or None if it is not such a text."""
    # The length comes first, because Python refuses to read a number that is very long.
    if len(text) > len(str(most)) or not text.isdecimal():
        return None
    number = int(text)
    if number > most or str(number) != text:
        return None
    return number


def read_integer(text):
    """Return the integer of which this is the text, or None if it is not such a text."""
    digits = text.removeprefix("-")
    if len(digits) > MOST_DIGITS or not digits.isdecimal():
        return None
    number = int(text)
    if str(number) != text:
        return None
    return number
