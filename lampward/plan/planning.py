"""Planning safe outputs of the least cost."""

from lampward.box.emptiness import is_empty
from lampward.grant.watches import watches
from lampward.plan.claims import cost_of, first_box
from lampward.plan.refuting import Book, refute
from lampward.plan.rules import Supply, safety_rules
from lampward.plan.searching import cheapest, cost_rule


def plan(grid, sizes, costs):
    """Return the least cost of safe outputs, such outputs, and a proof; the first two are None if there are none."""
    box = first_box(grid, sizes, costs)
    if is_empty(grid, box):
        return (None, None, [("empty",)])
    found = watches(grid)
    supply = Supply(grid, sizes)
    rules = safety_rules(found, sizes, supply)
    lows = [low for low, _ in box.outs]
    highs = [high for _, high in box.outs]
    outs = cheapest(supply, rules, costs, lows, highs)
    cost = None
    if outs is not None:
        cost = cost_of(costs, outs)
        rules = [cost_rule(supply, costs, cost - 1)] + rules
    book = Book(grid, sizes, costs, found)
    refute(book, supply, rules, lows, highs)
    return (cost, outs, book.rows)
