"""The rows of a proof that no outputs keep all rules."""

from lampward.box.boxes import Box
from lampward.plan.narrowing import narrow
from lampward.plan.splitting import best_split, divided
from lampward.worst.greatest import greatest
from lampward.worst.weighing import opposite


class Book:
    """The rows of a proof, and what is needed to write them."""

    def __init__(self, grid, sizes, costs, found):
        self.grid = grid
        self.sizes = [(size, size) for size in sizes]
        self.savings = ([(0, 1)] * len(sizes), [(-cost, 1) for cost in costs])
        self.opposites = [opposite(watch.weights) for watch in found]
        self.rows = []

    def divide(self, unit, at):
        """Write that the box is divided at the range of the unit."""
        self.rows.append(("split", unit, at))

    def close(self, rule, lows, highs):
        """Write that the rule is kept nowhere in the box with these ranges for the units."""
        box = Box(self.sizes, list(zip(lows, highs)))
        if rule.watch is None:
            self.rows.append(("cost", greatest(self.grid, box, self.savings)[1]))
        else:
            prices = greatest(self.grid, box, self.opposites[rule.watch])[1]
            self.rows.append(("harm", rule.watch, prices))


class Part:
    """Ranges that are not done, with the rules for them, or with a rule that is known to be kept nowhere in them."""

    def __init__(self, lows, highs, rules, broken):
        self.lows = lows
        self.highs = highs
        self.rules = rules
        self.broken = broken


def refute(book, supply, rules, lows, highs):
    """Write the rows that show that no outputs within the ranges, which contain even points, keep all rules."""
    pending = [Part(lows, highs, rules, None)]
    while pending:
        part = pending.pop()
        if part.broken is None:
            pending.extend(_opened(book, supply, part))
        else:
            book.close(part.broken, part.lows, part.highs)


def _opened(book, supply, part):
    """Write how the part is narrowed and divided, and return the parts that are left to be done, the next one last."""
    state = narrow(supply, part.rules, part.lows, part.highs)
    left = []
    # The ranges of the state leave out what is uneven, those of the proof's boxes do not.
    lows = part.lows
    highs = part.highs
    for cut in state.cuts:
        book.divide(cut.unit, cut.at)
        lower, upper = divided(lows, highs, cut.unit, cut.at)
        if cut.is_low:
            book.close(cut.rule, lower[0], lower[1])
            lows, highs = upper
        else:
            left.append(Part(upper[0], upper[1], [], cut.rule))
            lows, highs = lower
    if state.broken is not None:
        return left + [Part(lows, highs, [], state.broken)]
    split = best_split(supply, state)
    book.divide(split.unit, split.at)
    lower, upper = divided(lows, highs, split.unit, split.at)
    return left + [Part(upper[0], upper[1], state.rules, None), Part(lower[0], lower[1], state.rules, None)]
