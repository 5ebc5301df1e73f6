"""A bench: it keeps a lot while it is drawn down, and the tables of the steps that were done."""

from drawndown.errors import NoDeed, NoStep
from drawndown.lots import want_lot
from drawndown.rules import step_table, tables_of
from drawndown.tables import growing_products, times, turned_back

FIRST_LOT = (1, 0)


class Bench:
    """A kept lot, a row of tables, and what both were ahead of each deed that stands."""

    def __init__(self):
        self.kept = FIRST_LOT
        self.row = ()
        self.deeds = []

    def lay(self, lot):
        """Set another lot, with no tables."""
        want_lot(lot)
        self.change(lot, ())

    def step(self, rule):
        """Do one step of the lot by the rule."""
        self.go((step_table(rule, self.kept),))

    def run(self, rule):
        """Do all steps of the lot's run by the rule, as one deed."""
        self.go(tuple(tables_of(rule, self.kept)))

    def back(self):
        """Take the last step back."""
        if not self.row:
            raise NoStep("there is no step to take back")
        self.change(times(self.row[-1], self.kept), self.row[:-1])

    def undo(self):
        """Undo the last deed that stands."""
        if not self.deeds:
            raise NoDeed("there is no deed to undo")
        self.kept, self.row = self.deeds.pop()

    def lot(self):
        """The kept lot."""
        return self.kept

    def tables(self):
        """The list of the tables."""
        return list(self.row)

    def product(self):
        """The product of the tables."""
        return growing_products(len(self.kept), self.row)[-1]

    def go(self, tables):
        """Do the steps of these tables, as one deed."""
        behind = self.kept
        for table in tables:
            behind = times(turned_back(table), behind)
        self.change(behind, self.row + tables)

    def change(self, lot, row):
        """Do one deed: it can be undone, as what stood ahead of it is kept."""
        self.deeds.append((self.kept, self.row))
        self.kept = lot
        self.row = row
