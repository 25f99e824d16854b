"""Conditions on gaps: where they hold, what stands in them, and cells put into them."""

from maybetables.errors import NoFilling

# A condition with fewer atoms is sooner worked out than kept.
WORTH_KEEPING = 8


def cell_value(cell, filling):
    """What a cell comes to at a filling that has it, if it is a gap."""
    if isinstance(cell, str):
        return filling[cell]
    return cell


def gaps_among(cells):
    """The gaps out of some cells."""
    return [cell for cell in cells if isinstance(cell, str)]


def values_among(cells):
    """The values out of some cells."""
    return [cell for cell in cells if not isinstance(cell, str)]


def cells_within(parts):
    """All gaps and values that stand in some conditions, perhaps more than once."""
    cells = []
    for part in parts:
        cells.extend(part.kept_gaps)
        cells.extend(part.kept_values)
    return cells


def check_filling(gaps, filling):
    """Refuses with NoFilling a filling that lacks one of the sorted gaps, by the first such gap."""
    for gap in gaps:
        if gap not in filling:
            raise NoFilling(gap)


class Cond:
    """Any condition. Its fields never change, so what is often asked of it is kept from the start.

    Each sort has two methods of its own: worked(filling, told), whether it holds at a filling that has all its
    gaps, and, if a gap can stand in it, replaced(cells, made), the condition with these cells put in.
    """

    def __init__(self, cells, atoms):
        """Called by each sort with all cells that stand in it, when its own fields are set."""
        self.kept_gaps = tuple(sorted(set(gaps_among(cells))))
        self.kept_values = tuple(sorted(set(values_among(cells))))
        self.kept_atoms = atoms
        # Without gaps it is the same at every filling. Were it worked out each time, a Truth that stands
        # twice in a part that stands twice in another, and so on, would be come to a million times.
        self.settled = None
        if not self.kept_gaps:
            self.settled = self.worked({}, {})

    def truth(self, filling):
        """Whether it holds at a filling; NoFilling where that lacks a gap, whether or not it matters."""
        check_filling(self.kept_gaps, filling)
        return self.holds(filling, {})

    def holds(self, filling, told):
        """As truth, at a filling that is known to have all gaps.

        What was told at this filling is kept in the dict told, since one condition may stand within many others.
        """
        if self.settled is not None:
            return self.settled
        if self.kept_atoms < WORTH_KEEPING:
            return self.worked(filling, told)
        if self not in told:
            told[self] = self.worked(filling, told)
        return told[self]

    def gaps(self):
        """The gaps that stand in it, sorted, each once."""
        return list(self.kept_gaps)

    def standing(self):
        """The values that stand in it, rising, each once."""
        return list(self.kept_values)

    def atoms(self):
        """How many Sames stand in it, each as often as it stands there."""
        return self.kept_atoms

    def put(self, cells):
        """The condition with the cells that a dict gives in the place of gaps, all at once."""
        return self.put_once(cells, {})

    def put_once(self, cells, made):
        """As put. What was made with these cells is kept in the dict made: what stands at many places stays one."""
        for gap in self.kept_gaps:
            if gap in cells:
                if self not in made:
                    made[self] = self.replaced(cells, made)
                return made[self]
        return self


class Truth(Cond):
    """Holds always, or never."""

    def __init__(self, said):
        self.said = said
        Cond.__init__(self, [], 0)

    def worked(self, filling, told):
        return self.said


class Same(Cond):
    """Holds where both cells come to one value."""

    def __init__(self, one, other):
        self.one = one
        self.other = other
        Cond.__init__(self, [one, other], 1)

    def worked(self, filling, told):
        return cell_value(self.one, filling) == cell_value(self.other, filling)

    def replaced(self, cells, made):
        return Same(cells.get(self.one, self.one), cells.get(self.other, self.other))


class AllOf(Cond):
    """Holds where each of its parts does; of none, always."""

    def __init__(self, parts):
        self.parts = tuple(parts)
        Cond.__init__(self, cells_within(self.parts), sum([part.kept_atoms for part in self.parts]))

    def worked(self, filling, told):
        for part in self.parts:
            if not part.holds(filling, told):
                return False
        return True

    def replaced(self, cells, made):
        return AllOf([part.put_once(cells, made) for part in self.parts])


class OneOf(Cond):
    """Holds where one of its parts or more does; of none, never."""

    def __init__(self, parts):
        self.parts = tuple(parts)
        Cond.__init__(self, cells_within(self.parts), sum([part.kept_atoms for part in self.parts]))

    def worked(self, filling, told):
        for part in self.parts:
            if part.holds(filling, told):
                return True
        return False

    def replaced(self, cells, made):
        return OneOf([part.put_once(cells, made) for part in self.parts])


class Opposite(Cond):
    """Holds where its part does not."""

    def __init__(self, part):
        self.part = part
        Cond.__init__(self, cells_within([part]), part.kept_atoms)

    def worked(self, filling, told):
        return not self.part.holds(filling, told)

    def replaced(self, cells, made):
        return Opposite(self.part.put_once(cells, made))


def same_cells(cells, others):
    """A Same of each two cells that stand at one place, but of those that are one cell."""
    return [Same(one, other) for one, other in zip(cells, others) if one != other]


def all_of(parts):
    """A condition that holds where each of some does, without those that hold always."""
    if False in [part.settled for part in parts]:
        return Truth(False)
    left = [part for part in parts if part.settled is None]
    return left[0] if len(left) == 1 else AllOf(left)


def one_of(parts):
    """A condition that holds where one of some or more does, without those that never hold."""
    if True in [part.settled for part in parts]:
        return Truth(True)
    left = [part for part in parts if part.settled is None]
    return left[0] if len(left) == 1 else OneOf(left)
