"""Where ranges are divided if no rule narrows them any more."""

from lampward.plan.narrowing import volume_within


class Split:
    """A place to divide the range of a unit; `is_low_first` if more is left of the part up to `at`."""

    def __init__(self, unit, at, volume, is_low_first):
        self.unit = unit
        self.at = at
        self.volume = volume
        self.is_low_first = is_low_first


def best_split(supply, state):
    """Return the split in the middle of a range that leaves the fewest outputs to choose from."""
    best = None
    for unit, (low, high) in enumerate(zip(state.lows, state.highs)):
        if low < high:
            found = _split(supply, state, unit, (low + high) // 2)
            if best is None or found.volume < best.volume:
                best = found
    return best


def divided(lows, highs, unit, at):
    """Return the ranges of both parts, the lower one first."""
    below = list(highs)
    below[unit] = at
    above = list(lows)
    above[unit] = at + 1
    return ((lows, below), (above, highs))


def _split(supply, state, unit, at):
    lower, upper = divided(state.lows, state.highs, unit, at)
    low_volume = volume_within(supply, state.rules, lower[0], lower[1])
    high_volume = volume_within(supply, state.rules, upper[0], upper[1])
    return Split(unit, at, low_volume + high_volume, low_volume >= high_volume)
