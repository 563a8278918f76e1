"""Islands: buses that are connected by lines."""


def islands(grid):
    """Return the islands of the grid, in the order of their first buses."""
    firsts = _firsts(grid)
    found = []
    for bus in range(grid.buses):
        if firsts[bus] == bus:
            found.append(_buses_with(firsts, bus))
    return found


def island_at(grid, bus):
    """Return the island that contains the bus."""
    firsts = _firsts(grid)
    return _buses_with(firsts, firsts[bus])


def _firsts(grid):
    """Return, for each bus, the first bus of its island."""
    firsts = list(range(grid.buses))
    for line in grid.lines:
        low = min(firsts[line.a], firsts[line.b])
        high = max(firsts[line.a], firsts[line.b])
        firsts = [low if first == high else first for first in firsts]
    return firsts


def _buses_with(firsts, wanted):
    return [bus for bus, first in enumerate(firsts) if first == wanted]
