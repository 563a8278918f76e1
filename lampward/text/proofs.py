"""Proofs as texts."""

from lampward.errors import BadText
from lampward.num.writing import read_fraction, write_fraction


def write_proof(proof):
    """Return the text of a proof."""
    rows = [" ".join([write_fraction(price) for price in prices]) for prices in proof]
    return "".join([f"{row}\n" for row in rows])


def read_proof(text):
    """Return the proof of which this is the text."""
    *rows, rest = text.split("\n")
    proof = [_read_prices(row, number) for number, row in enumerate(rows, start=1)]
    if rest != "":
        raise BadText(len(rows) + 1)
    return proof


def _read_prices(row, number):
    """Return the prices in the row of the text with this number."""
    try:
        return [read_fraction(word) for word in row.split(" ")]
    except BadText:
        raise BadText(number)
