"""Fractions as texts."""

from lampward.errors import BadText
from lampward.num.fractions import fraction

DIGITS = "0123456789"
MOST_DIGITS = 60


def write_fraction(a):
    """Return the text of a fraction."""
    if a[1] == 1:
        return str(a[0])
    return f"{a[0]}/{a[1]}"


def read_fraction(text):
    """Return the fraction of which this is the text."""
    top, slash, bottom = text.partition("/")
    if slash == "":
        bottom = "1"
    if not _is_number(top.removeprefix("-")) or not _is_number(bottom) or int(bottom) == 0:
        raise BadText(1)
    found = fraction(int(top), int(bottom))
    # Each fraction has one text only, so any other spelling of it is refused.
    if write_fraction(found) != text:
        raise BadText(1)
    return found


def _is_number(text):
    """Tell whether the text has digits only, and as many as a number may have."""
    if len(text) < 1 or len(text) > MOST_DIGITS:
        return False
    return all([sign in DIGITS for sign in text])
