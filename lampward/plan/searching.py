"""Searching for outputs that keep all rules and cost the least."""

from lampward.plan.filling import filled, least_sum, sum_at
from lampward.plan.narrowing import narrow
from lampward.plan.rules import Rule, levelled, ranked
from lampward.plan.splitting import best_split, divided


def cost_rule(supply, costs, cost):
    """Return the rule that the outputs cost at most so much."""
    factors, most = levelled(supply, costs, cost)
    return Rule(supply, factors, most, None)


def cheapest(supply, rules, costs, lows, highs):
    """Return outputs within the ranges that keep all rules and cost the least, or None if there are none.

    The ranges contain even points.
    """
    order = ranked(supply, costs)
    best = _find(supply, rules, order, lows, highs)
    if best is None:
        return None
    # Between costs that differ by less than the factors of this rule can tell, there is nothing to search.
    aim = cost_rule(supply, costs, 0)
    least = least_sum(aim, lows, highs)
    while least < sum_at(aim, best):
        aim.most = (least + sum_at(aim, best) - 1) // 2
        found = _find(supply, [aim] + rules, order, lows, highs)
        if found is None:
            least = aim.most + 1
        else:
            best = found
    return best


def _find(supply, rules, order, lows, highs):
    """Return outputs within the ranges that keep all rules, or None if there are none."""
    pending = [(lows, highs, rules)]
    while pending:
        part_lows, part_highs, left = pending.pop()
        state = narrow(supply, left, part_lows, part_highs)
        if state.broken is None:
            outs = _cheapest_within(order, state.lows, state.highs)
            if all([sum_at(rule, outs) <= rule.most for rule in state.rules]):
                return outs
            pending.extend(_parts(supply, state))
    return None


def _cheapest_within(order, lows, highs):
    """Return the even outputs within the ranges that cost the least."""
    outs = list(lows)
    for demand, pairs in order:
        for (_, unit), out in zip(pairs, filled(demand, pairs, lows, highs)):
            outs[unit] = out
    return outs


def _parts(supply, state):
    """Return both parts of divided ranges, with their rules, the one of which more is left behind the other one."""
    split = best_split(supply, state)
    lower, upper = divided(state.lows, state.highs, split.unit, split.at)
    parts = [upper, lower] if split.is_low_first else [lower, upper]
    return [(lows, highs, state.rules) for lows, highs in parts]
