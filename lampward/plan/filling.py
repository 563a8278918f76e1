"""Even outputs within ranges, and the sums that they can have.

Ranges are given as two lists, of the low and of the high ends for all units.
"""


def evened(supply, lows, highs):
    """Return the ranges of the outputs that even points within these ranges have, or None if there are none."""
    new_lows = list(lows)
    new_highs = list(highs)
    for units, demand in zip(supply.members, supply.demands):
        above = demand - sum([lows[unit] for unit in units])
        below = sum([highs[unit] for unit in units]) - demand
        if above < 0 or below < 0:
            return None
        for unit in units:
            new_lows[unit] = max(lows[unit], highs[unit] - below)
            new_highs[unit] = min(highs[unit], lows[unit] + above)
    return (new_lows, new_highs)


def filled(demand, pairs, lows, highs):
    """Return even outputs of the units in these pairs, for which the first ones are as great as they can be."""
    missing = demand - sum([lows[unit] for _, unit in pairs])
    outs = []
    for _, unit in pairs:
        low = lows[unit]
        raised = min(missing, highs[unit] - low)
        missing -= raised
        outs.append(low + raised)
    return outs


def greatest_sum(rule, lows, highs):
    """Return the greatest sum that the rule finds at even points within the ranges."""
    found = 0
    for demand, pairs in rule.rows:
        missing = demand - sum([lows[unit] for _, unit in pairs])
        for factor, unit in reversed(pairs):
            low = lows[unit]
            raised = min(missing, highs[unit] - low)
            missing -= raised
            found += factor * (low + raised)
    return found


def least_sum(rule, lows, highs):
    """Return the least sum that the rule finds at even points within the ranges."""
    return sum([weighed(pairs, filled(demand, pairs, lows, highs)) for demand, pairs in rule.rows])


def sum_at(rule, outs):
    """Return the sum that the rule finds at these outputs."""
    return sum([factor * outs[unit] for _, pairs in rule.rows for factor, unit in pairs])


def weighed(pairs, outs):
    """Return the sum of the outputs, each times the factor in its pair."""
    return sum([pair[0] * out for pair, out in zip(pairs, outs)])
