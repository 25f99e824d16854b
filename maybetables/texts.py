"""Conditions and tables written as texts, and read out of them."""

from maybetables.conds import AllOf, OneOf, Opposite, Same, Truth
from maybetables.errors import NoText, Short, Twice
from maybetables.tables import Table

LETTERS = "abcdefghijklmnopqrstuvwxyz"
FIGURES = "0123456789"
MOST_LETTERS = 8
MOST_FIGURES = 60
# So many of all, any and not may stand one within another.
MOST_WITHIN = 20


class Reader:
    """A text, and the place up to which it has been read. What is written otherwise is refused with NoText."""

    def __init__(self, text):
        self.text = text
        self.place = 0

    def taken(self, signs):
        """Whether these signs stand next; then they have been read."""
        if not self.text.startswith(signs, self.place):
            return False
        self.place = self.place + len(signs)
        return True

    def needed(self, signs):
        """Reads these signs, which are to stand next."""
        if not self.taken(signs):
            raise NoText()

    def ended(self):
        """Asks that all of the text has been read."""
        if self.place != len(self.text):
            raise NoText()

    def at_one_of(self, signs):
        """Whether one of these signs stands next."""
        return self.place < len(self.text) and self.text[self.place] in signs

    def run_of(self, signs, most):
        """Reads all that stand next out of some signs: one or more, and not more than told."""
        start = self.place
        while self.at_one_of(signs):
            self.place = self.place + 1
        if not 1 <= self.place - start <= most:
            raise NoText()
        return self.text[start:self.place]

    def word(self):
        """The name that stands next."""
        return self.run_of(LETTERS, MOST_LETTERS)

    def number(self):
        """The value that stands next."""
        below = self.taken("-")
        figures = self.run_of(FIGURES, MOST_FIGURES)
        if figures[0] == "0" and (below or figures != "0"):
            raise NoText()
        return -int(figures) if below else int(figures)

    def cell(self):
        """The cell that stands next."""
        if self.at_one_of(LETTERS):
            return self.word()
        return self.number()

    def several(self, parting, end, one_next):
        """What one_next reads, any number of times, with the parting signs between; and the signs at the end."""
        found = []
        while not self.taken(end):
            if found:
                self.needed(parting)
            found.append(one_next())
        return found


def cond_next(reader, most):
    """The condition that stands next, with so many of all, any and not one within another at most."""
    if reader.taken("all("):
        return AllOf(parts_next(reader, most))
    if reader.taken("any("):
        return OneOf(parts_next(reader, most))
    if reader.taken("not("):
        parts = parts_next(reader, most)
        if len(parts) != 1:
            raise NoText()
        return Opposite(parts[0])
    return plain_next(reader)


def parts_next(reader, most):
    """The conditions that stand next, within brackets of which the first has been read."""
    if most == 0:
        raise NoText()
    return reader.several("; ", ")", lambda: cond_next(reader, most - 1))


def plain_next(reader):
    """The condition without brackets that stands next."""
    one = reader.cell()
    if reader.taken("="):
        return Same(one, reader.cell())
    if reader.taken("#"):
        return Opposite(Same(one, reader.cell()))
    # Before a sign between cells these words are gaps.
    if one not in ("yes", "no"):
        raise NoText()
    return Truth(one == "yes")


def read_cond(text):
    """The condition that is written so; NoText."""
    reader = Reader(text)
    cond = cond_next(reader, MOST_WITHIN)
    reader.ended()
    return cond


def shown_same(same, sign):
    """The text of a Same, with this sign between its cells."""
    return str(same.one) + sign + str(same.other)


def shown_parts(cond, told):
    """The text of a condition, by those of its parts."""
    if isinstance(cond, Truth):
        return "yes" if cond.said else "no"
    if isinstance(cond, Same):
        return shown_same(cond, "=")
    if isinstance(cond, Opposite):
        if isinstance(cond.part, Same):
            return shown_same(cond.part, "#")
        return "not(" + shown_once(cond.part, told) + ")"
    word = "all(" if isinstance(cond, AllOf) else "any("
    return word + "; ".join([shown_once(part, told) for part in cond.parts]) + ")"


def shown_once(cond, told):
    """The text of a condition. It is kept in the dict told, since one condition may stand within many others."""
    if cond not in told:
        told[cond] = shown_parts(cond, told)
    return told[cond]


def shown_cond(cond):
    """The text by which a condition is written."""
    return shown_once(cond, {})


def row_next(reader):
    """The row that stands next, a tuple of its cells and its condition."""
    cells = []
    while not reader.taken(": "):
        cells.append(reader.cell())
        reader.needed(" ")
    return (cells, cond_next(reader, MOST_WITHIN))


def read_table(text):
    """The table that is written so; NoText."""
    reader = Reader(text)
    columns = reader.several(" ", "\n", lambda: reader.word())
    reader.needed("whole ")
    whole = cond_next(reader, MOST_WITHIN)
    rows = []
    while reader.taken("\n"):
        rows.append(row_next(reader))
    reader.ended()
    try:
        return Table(columns, rows, whole)
    except (Twice, Short):
        raise NoText() from None


def shown_table(table):
    """The text by which a table is written."""
    told = {}
    lines = [" ".join(table.columns()), "whole " + shown_once(table.whole(), told)]
    for cells, cond in table.rows():
        lines.append("".join([str(cell) + " " for cell in cells]) + ": " + shown_once(cond, told))
    return "\n".join(lines)
