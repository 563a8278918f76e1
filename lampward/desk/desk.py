"""The control desk: what is lost, what is read, and what is granted now."""

from lampward.box.balance import check_even
from lampward.box.boxes import Box
from lampward.box.emptiness import check_filled
from lampward.desk.entries import written_ask, written_see
from lampward.errors import NoPoint, NoSuch, NothingToUndo
from lampward.grant.granting import refusal_by
from lampward.grant.guards import guards
from lampward.loss.harms import harms
from lampward.net.cases import NO_LOSS, cases, grid_of
from lampward.net.grid import Grid


class Desk:
    """A desk that watches over one grid.

    What it keeps is replaced by each deed, never changed, so that it can be taken back.
    """

    def __init__(self, grid):
        self._grid = grid_of(grid, NO_LOSS)
        self._lost = []
        self._point = None
        self._box = None
        # For each deed that stands: its line, and the lost parts, the point and the box before it.
        self._deeds = []
        # The guards of the grid now, once they are needed.
        self._guards = None

    def now(self):
        """Return the grid without the lost parts."""
        lines = [line for line in self._grid.lines if line.name not in self._lost]
        units = [unit for unit in self._grid.units if unit.name not in self._lost]
        return Grid(self._grid.buses, lines, units, self._grid.loads)

    def lost(self):
        """Return the names of the lost parts, in the order of the parts of the grid."""
        return [name for name in cases(self._grid) if name in self._lost]

    def point(self):
        """Return the present point, or None."""
        if self._point is None:
            return None
        sizes, outs = self._point
        return (list(sizes), list(outs))

    def box(self):
        """Return the present box, or None."""
        if self._box is None:
            return None
        return Box(self._box.sizes, self._box.outs)

    def see(self, sizes, outs):
        """Take what is read as the present point."""
        check_even(self.now(), sizes, outs)
        point = (list(sizes), list(outs))
        self._do(written_see(sizes, outs), self._lost, point, self._box)

    def ask(self, box):
        """Take the box as the present one and return None if it is granted, otherwise return the refusal."""
        grid = self.now()
        check_filled(grid, box)
        if self._guards is None:
            self._guards = guards(grid)
        refusal = refusal_by(grid, box, self._guards)
        if refusal is None:
            self._do(written_ask(box.sizes, box.outs), self._lost, self._point, Box(box.sizes, box.outs))
        return refusal

    def lose(self, name):
        """Lose a part, and return the harms of its loss at the present point."""
        grid = self.now()
        if name == NO_LOSS or name not in cases(grid):
            raise NoSuch(name)
        if self._point is None:
            raise NoPoint()
        sizes, outs = self._point
        found = harms(grid, name, sizes, outs)
        self._do(f"lose {name}", self._lost + [name], None, None)
        return found

    def mend(self, name):
        """Take a lost part back."""
        if name not in self._lost:
            raise NoSuch(name)
        self._do(f"mend {name}", [other for other in self._lost if other != name], None, None)

    def sure(self):
        """Tell whether there are a point and a box, and the point lies in the box."""
        if self._point is None or self._box is None:
            return False
        sizes, outs = self._point
        return self._box.holds(sizes, outs)

    def alarms(self):
        """Return, for each case that does harm at the present point, its name and its harms."""
        if self._point is None:
            raise NoPoint()
        sizes, outs = self._point
        grid = self.now()
        told = [(case, harms(grid, case, sizes, outs)) for case in cases(grid)]
        return [(case, found) for case, found in told if found != []]

    def undo(self):
        """Take the last deed that stands back, and return its line of the journal."""
        if self._deeds == []:
            raise NothingToUndo()
        line, lost, point, box = self._deeds.pop()
        self._keep(lost, point, box)
        return line

    def journal(self):
        """Return the journal: a line for each deed that stands."""
        return "".join([f"{deed[0]}\n" for deed in self._deeds])

    def _do(self, line, lost, point, box):
        self._deeds.append((line, self._lost, self._point, self._box))
        self._keep(lost, point, box)

    def _keep(self, lost, point, box):
        if lost != self._lost:
            self._guards = None
        self._lost = lost
        self._point = point
        self._box = box
