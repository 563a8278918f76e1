"""The rows of a proof: a search that found nothing, written down."""

from lampward.box.boxes import Box
from lampward.plan.splitting import divided
from lampward.worst.greatest import greatest
from lampward.worst.weighing import opposite


class Book:
    """The rows of a proof, and what is needed to write them."""

    def __init__(self, grid, sizes, costs, found):
        self.grid = grid
        self.sizes = [(size, size) for size in sizes]
        self.savings = ([(0, 1)] * len(sizes), [(-cost, 1) for cost in costs])
        self.opposites = [opposite(watch.weights) for watch in found]
        self.rows = []

    def divide(self, unit, at):
        """Write that the box is divided at the range of the unit."""
        self.rows.append(("split", unit, at))

    def close(self, rule, lows, highs):
        """Write that the rule is kept nowhere in the box with these ranges for the units."""
        box = Box(self.sizes, list(zip(lows, highs)))
        if rule.watch is None:
            self.rows.append(("cost", greatest(self.grid, box, self.savings)[1]))
        else:
            prices = greatest(self.grid, box, self.opposites[rule.watch])[1]
            self.rows.append(("harm", rule.watch, prices))


class Part:
    """Ranges that are not done: those of a node of a search, or those in which a rule is known to be kept nowhere."""

    def __init__(self, lows, highs, node, broken):
        self.lows = lows
        self.highs = highs
        self.node = node
        self.broken = broken


def refute(book, root, lows, highs):
    """Write the rows of a search that began with these ranges and found nothing."""
    pending = [Part(lows, highs, root, None)]
    while pending:
        part = pending.pop()
        if part.node is None:
            book.close(part.broken, part.lows, part.highs)
        else:
            pending.extend(_opened(book, part))


def _opened(book, part):
    """Write how the part was narrowed and divided, and return the parts that are left to be done, the next one last."""
    left = []
    # The ranges of the node leave out what is uneven, those of the proof's boxes do not.
    lows = part.lows
    highs = part.highs
    for cut in part.node.state.cuts:
        book.divide(cut.unit, cut.at)
        lower, upper = divided(lows, highs, cut.unit, cut.at)
        if cut.is_low:
            book.close(cut.rule, lower[0], lower[1])
            lows, highs = upper
        else:
            left.append(Part(upper[0], upper[1], None, cut.rule))
            lows, highs = lower
    if part.node.state.broken is not None:
        return left + [Part(lows, highs, None, part.node.state.broken)]
    split = part.node.division
    book.divide(split.unit, split.at)
    lower, upper = divided(lows, highs, split.unit, split.at)
    below, above = part.node.parts
    return left + [Part(upper[0], upper[1], above, None), Part(lower[0], lower[1], below, None)]
