"""Planning safe outputs of the least cost."""

from lampward.box.emptiness import is_empty
from lampward.grant.watches import watches
from lampward.plan.claims import cost_of, first_box
from lampward.plan.refuting import Book, refute
from lampward.plan.rules import Supply, safety_rules
from lampward.plan.searching import search_cheapest


def plan(grid, sizes, costs):
    """Return the least cost of safe outputs, such outputs, and a proof; the first two are None if there are none."""
    box = first_box(grid, sizes, costs)
    if is_empty(grid, box):
        return (None, None, [("empty",)])
    asked = watches(grid)
    supply = Supply(grid, sizes)
    rules = safety_rules(asked, sizes, supply)
    lows = [low for low, _ in box.outs]
    highs = [high for _, high in box.outs]
    found = search_cheapest(supply, rules, costs, lows, highs)
    book = Book(grid, sizes, costs, asked)
    refute(book, found.root, lows, highs)
    cost = None if found.outs is None else cost_of(costs, found.outs)
    return (cost, found.outs, book.rows)
