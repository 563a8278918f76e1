"""Searching for outputs that keep all rules and cost the least."""

from lampward.plan.filling import filled, least_sum, sum_at
from lampward.plan.narrowing import narrow
from lampward.plan.rules import Rule, levelled, ranked
from lampward.plan.splitting import best_split, divided


class Node:
    """Ranges in a search, with the rules that are not known to be kept everywhere in them.

    `state` tells how they were narrowed. If no rule was broken by that, `division` tells where
    they were divided, and `parts` has the nodes of both parts, the lower one first.
    """

    def __init__(self, lows, highs, rules):
        self.lows = lows
        self.highs = highs
        self.rules = rules
        self.state = None
        self.division = None
        self.parts = []


class Search:
    """What a search has found: outputs that keep all rules, or None, and the node that it began with."""

    def __init__(self, outs, root):
        self.outs = outs
        self.root = root


def search(supply, rules, costs, lows, highs):
    """Search the ranges, which contain even points, for outputs that keep all rules."""
    order = ranked(supply, costs)
    root = Node(lows, highs, rules)
    pending = [root]
    while pending:
        node = pending.pop()
        state = narrow(supply, node.rules, node.lows, node.highs)
        node.state = state
        if state.broken is None:
            outs = _cheapest_within(order, state.lows, state.highs)
            if all([sum_at(rule, outs) <= rule.most for rule in state.rules]):
                return Search(outs, root)
            pending.extend(_divide(supply, node))
    return Search(None, root)


def search_cheapest(supply, rules, costs, lows, highs):
    """Search the ranges, which contain even points, for outputs that keep all rules and cost the least.

    The root is that of a search that found nothing: nothing at all, or nothing that costs less.
    """
    found = search(supply, rules, costs, lows, highs)
    if found.outs is None:
        return found
    best = found.outs
    # The factors tell costs apart, in smaller numbers.
    factors, _ = levelled(supply, costs, 0)
    aim = Rule(supply, factors, 0, None)
    least = least_sum(aim, lows, highs)
    below = search(supply, [Rule(supply, factors, least - 1, None)] + rules, costs, lows, highs)
    while least < sum_at(aim, best):
        most = (least + sum_at(aim, best) - 1) // 2
        found = search(supply, [Rule(supply, factors, most, None)] + rules, costs, lows, highs)
        if found.outs is None:
            below = found
            least = most + 1
        else:
            best = found.outs
    return Search(best, below.root)


def _cheapest_within(order, lows, highs):
    """Return the even outputs within the ranges that cost the least."""
    outs = list(lows)
    for demand, pairs in order:
        for (_, unit), out in zip(pairs, filled(demand, pairs, lows, highs)):
            outs[unit] = out
    return outs


def _divide(supply, node):
    """Divide the ranges of the node, and return both parts, the one of which more is left behind the other one."""
    split = best_split(supply, node.state)
    ranges = divided(node.state.lows, node.state.highs, split.unit, split.at)
    node.division = split
    node.parts = [Node(lows, highs, node.state.rules) for lows, highs in ranges]
    return node.parts[::-1] if split.is_low_first else node.parts
