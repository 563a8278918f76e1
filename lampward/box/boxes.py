"""Boxes: a range for each load and for each unit."""

from lampward.errors import BadBox, Misfit

GREATEST = 999


class Box:
    """A box of points; `sizes` and `outs` are its ranges for loads and for units."""

    def __init__(self, sizes, outs):
        for number, (low, high) in enumerate(sizes + outs):
            if low < 0 or low > high or high > GREATEST:
                raise BadBox(number)
        self.sizes = [(low, high) for low, high in sizes]
        self.outs = [(low, high) for low, high in outs]

    def __eq__(self, other):
        return isinstance(other, Box) and self.sizes == other.sizes and self.outs == other.outs

    def holds(self, sizes, outs):
        """Tell whether the point lies in the box."""
        return _hold(self.sizes, sizes) and _hold(self.outs, outs)


def fits(grid, box):
    """Tell whether the box fits the grid."""
    if len(box.sizes) != len(grid.loads):
        return False
    return _lie_within(box.outs, [(unit.low, unit.high) for unit in grid.units])


def meet(first, second):
    """Return the box of the points that lie in both boxes, or None if no point does."""
    if len(first.sizes) != len(second.sizes) or len(first.outs) != len(second.outs):
        raise Misfit()
    sizes = _common(first.sizes, second.sizes)
    outs = _common(first.outs, second.outs)
    if any([low > high for low, high in sizes + outs]):
        return None
    return Box(sizes, outs)


def is_within(inner, outer):
    """Tell whether the first box lies within the second one."""
    return _lie_within(inner.sizes, outer.sizes) and _lie_within(inner.outs, outer.outs)


def _hold(ranges, numbers):
    if len(ranges) != len(numbers):
        return False
    return all([low <= number and number <= high for (low, high), number in zip(ranges, numbers)])


def _lie_within(inner, outer):
    """Tell whether there are as many ranges, each within that of the other list."""
    if len(inner) != len(outer):
        return False
    pairs = list(zip(inner, outer))
    return all([low <= start and end <= high for (start, end), (low, high) in pairs])


def _common(first, second):
    """Return the pairs of the ends of the common parts, the low one above the high one if there is none."""
    pairs = list(zip(first, second))
    return [(max(low, start), min(high, end)) for (low, high), (start, end) in pairs]
