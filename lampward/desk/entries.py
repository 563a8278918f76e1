"""The lines of a journal: how deeds are written and read."""

from lampward.text.reading import read_integer

COLON = ":"


def written_see(sizes, outs):
    """Return the line of reading a point."""
    return _written("see", [str(size) for size in sizes], [str(out) for out in outs])


def written_ask(sizes, outs):
    """Return the line of asking for a box with these ranges."""
    return _written("ask", [_written_range(pair) for pair in sizes], [_written_range(pair) for pair in outs])


def read_point(words):
    """Return the sizes and outputs in the words behind `see`, or None if they have another form."""
    return _read_divided(words, read_integer)


def read_ranges(words):
    """Return the ranges for loads and for units in the words behind `ask`, or None if they have another form."""
    return _read_divided(words, _read_range)


def _written(deed, for_loads, for_units):
    return " ".join([deed] + for_loads + [COLON] + for_units)


def _written_range(pair):
    return f"{pair[0]}..{pair[1]}"


def _read_range(word):
    start, _, end = word.partition("..")
    low = read_integer(start)
    high = read_integer(end)
    if low is None or high is None:
        return None
    return (low, high)


def _read_divided(words, read):
    """Return what stands before and behind the colon, each word read, or None if a word cannot be read."""
    if COLON not in words:
        return None
    at = words.index(COLON)
    for_loads = [read(word) for word in words[:at]]
    for_units = [read(word) for word in words[at + 1:]]
    if None in for_loads or None in for_units:
        return None
    return (for_loads, for_units)
