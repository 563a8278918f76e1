"""Narrowing ranges to the outputs that can keep each single rule."""

from lampward.plan.filling import evened, filled, greatest_sum, weighed

# A cut takes two rows of a proof, so it has to take at least one of so many parts of a range away.
PARTS = 16

# No range has more numbers; so with so many parts, each cut counts.
ALL_PARTS = 1000


class Cut:
    """Outputs of one unit that cannot keep a rule: those up to `at` if `is_low`, otherwise those above `at`."""

    def __init__(self, unit, at, is_low, rule):
        self.unit = unit
        self.at = at
        self.is_low = is_low
        self.rule = rule


class Narrowed:
    """Ranges that are narrowed by cuts, and the rules that are not kept everywhere in them.

    Each cut takes at least one of so many parts of a range away. `broken` is a rule that is kept
    nowhere in the ranges, or None.
    """

    def __init__(self, lows, highs, rules, parts):
        self.lows = lows
        self.highs = highs
        self.rules = rules
        self.parts = parts
        self.cuts = []
        self.broken = None


def narrow(supply, rules, lows, highs):
    """Return the ranges, which contain even points, narrowed until no cut is worthwhile or a rule is broken."""
    state = _begun(supply, rules, lows, highs, PARTS)
    many = -1
    while many < len(state.cuts) and state.broken is None:
        many = len(state.cuts)
        _sweep(supply, state)
    return state


def volume_within(supply, rules, lows, highs):
    """Return in how many ways outputs can be chosen from the ranges, once they are narrowed by each rule.

    The ranges contain even points. If a rule is broken, this is 0.
    """
    state = _begun(supply, rules, lows, highs, ALL_PARTS)
    _sweep(supply, state)
    if state.broken is not None:
        return 0
    found = 1
    for low, high in zip(state.lows, state.highs):
        found *= high - low + 1
    return found


def _begun(supply, rules, lows, highs, parts):
    even_lows, even_highs = evened(supply, lows, highs)
    return Narrowed(even_lows, even_highs, rules, parts)


def _sweep(supply, state):
    """Narrow the ranges by each rule in its turn, and leave out the rules that are always kept."""
    left = []
    for rule in state.rules:
        if greatest_sum(rule, state.lows, state.highs) > rule.most:
            left.append(rule)
            fills = [filled(demand, pairs, state.lows, state.highs) for demand, pairs in rule.rows]
            least = sum([weighed(pairs, outs) for (_, pairs), outs in zip(rule.rows, fills)])
            if least > rule.most:
                state.broken = rule
                return
            for (_, pairs), outs in zip(rule.rows, fills):
                for unit, low, high in _limits(pairs, outs, state, rule.most - least):
                    _cut_by(supply, state, rule, unit, low, high)
    state.rules = left


def _cut_by(supply, state, rule, unit, low, high):
    """Leave the unit only the outputs from low to high, because of the rule, if that is worthwhile."""
    width = state.highs[unit] - state.lows[unit] + 1
    if (low - state.lows[unit]) * state.parts >= width:
        state.cuts.append(Cut(unit, low - 1, True, rule))
        state.lows[unit] = low
        state.lows, state.highs = evened(supply, state.lows, state.highs)
    if (state.highs[unit] - high) * state.parts >= width:
        state.cuts.append(Cut(unit, high, False, rule))
        state.highs[unit] = high
        state.lows, state.highs = evened(supply, state.lows, state.highs)


def _limits(pairs, outs, state, slack):
    """Return the units of an island that the rule limits, each with its least and its greatest output left.

    The outputs are those with the least sum: up to some unit all are full, and behind it all are at
    their low ends. When one of them moves, those around that unit move against it first.
    """
    falls = [out - state.lows[unit] for (_, unit), out in zip(pairs, outs)]
    rises = [state.highs[unit] - out for (_, unit), out in zip(pairs, outs)]
    turn = 0
    while turn < len(pairs) - 1 and rises[turn] == 0:
        turn += 1
    factors = [factor for factor, _ in pairs]
    above = list(zip(factors, rises))[turn:]
    below = list(zip(factors, falls))[turn::-1]
    found = []
    for at, (factor, unit) in enumerate(pairs):
        low = state.lows[unit]
        high = state.highs[unit]
        if falls[at] * (factors[-1] - factor) > slack:
            low = outs[at] - _moved(factor, falls[at], slack, above[int(at == turn):])
        if rises[at] * (factor - factors[0]) > slack:
            high = outs[at] + _moved(factor, rises[at], slack, below[int(at == turn):])
        if low > state.lows[unit] or high < state.highs[unit]:
            found.append((unit, low, high))
    return found


def _moved(factor, room, slack, others):
    """Return how far an output can move, at most its room, when others move against it, within the slack."""
    done = 0
    for other, free in others:
        step = min(room - done, free)
        cost = abs(other - factor)
        if cost * step > slack:
            return done + slack // cost
        slack -= cost * step
        done += step
    return done
