"""Grids as texts."""

from lampward.errors import BadGrid, BadText
from lampward.net.grid import Grid, Line, Load, Unit
from lampward.text.reading import read_number

# No number of a grid is greater.
GREATEST = 9999

# The forms of lines of text, in the order in which they follow one another.
BUSES = 0
LINE = 1
UNIT = 2
LOAD = 3
FORMS = (
    ("buses", "NUMBER"),
    ("line", "NAME", "NUMBER", "NUMBER", "ease", "NUMBER", "limit", "NUMBER"),
    ("unit", "NAME", "NUMBER", "from", "NUMBER", "to", "NUMBER", "share", "NUMBER"),
    ("load", "NAME", "NUMBER"),
)


def write_grid(grid):
    """Return the text of a grid."""
    rows = [f"buses {grid.buses}"]
    for line in grid.lines:
        rows.append(f"line {line.name} {line.a} {line.b} ease {line.ease} limit {line.limit}")
    for unit in grid.units:
        rows.append(f"unit {unit.name} {unit.bus} from {unit.low} to {unit.high} share {unit.share}")
    for load in grid.loads:
        rows.append(f"load {load.name} {load.bus}")
    return "".join([f"{row}\n" for row in rows])


def read_grid(text):
    """Return the grid of which this is the text."""
    *rows, rest = text.split("\n")
    told = _told_in_order(rows)
    if told == []:
        raise BadText(1)
    # What breaks a rule for grids stands before the first line of text that is not told.
    grid = _grid_of_rows(told)
    if len(told) < len(rows) or rest != "":
        raise BadText(len(told) + 1)
    return grid


def _told_in_order(rows):
    """Return what the rows tell, as pairs of a form and values, up to the first one with no form or too late."""
    told = []
    last = BUSES
    for row in rows:
        form, values = _told_by(row)
        # The first row, and no other one, tells the number of buses.
        if values is None or form < last or (form == BUSES) != (told == []):
            return told
        told.append((form, values))
        last = form
    return told


def _told_by(row):
    """Return the number of the row's form and the values that the row tells; the values are None if it has no form."""
    words = row.split(" ")
    for form, wanted in enumerate(FORMS):
        if words[0] == wanted[0]:
            return (form, _values(words, wanted))
    return (BUSES, None)


def _values(words, wanted):
    """Return the names and numbers among the words, or None if the words are not as wanted."""
    if len(words) != len(wanted):
        return None
    found = []
    for word, kind in zip(words, wanted):
        if kind == "NAME":
            found.append(word)
        elif kind == "NUMBER":
            found.append(read_number(word, GREATEST))
        elif word != kind:
            return None
    return None if None in found else found


def _grid_of_rows(told):
    """Return the grid that the rows tell, or raise BadText for the first one that breaks a rule for grids."""
    lines = [Line(*values) for form, values in told if form == LINE]
    units = [Unit(*values) for form, values in told if form == UNIT]
    loads = [Load(*values) for form, values in told if form == LOAD]
    before = {"bus": 1, "line": 2, "unit": 2 + len(lines), "load": 2 + len(lines) + len(units)}
    try:
        return Grid(told[0][1][0], lines, units, loads)
    except BadGrid as e:
        raise BadText(before[e.kind] + e.number)
