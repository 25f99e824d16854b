"""Houses: tables by names that are filled together, and answer the texts of asks."""

from maybetables.asks import read_ask
from maybetables.conds import check_filling
from maybetables.sureness import maybe, sure_rows


class House:
    """Tables by names."""

    def __init__(self, tables):
        self.kept_tables = dict(tables)

    def fill(self, filling):
        """The filled lists by names; None where one of the wholes fails; NoFilling without a gap of any table."""
        gaps = []
        for table in self.kept_tables.values():
            gaps.extend(table.gaps())
        check_filling(sorted(gaps), filling)
        lists = {}
        for name, table in self.kept_tables.items():
            lists[name] = table.filled(filling)
            if lists[name] is None:
                return None
        return lists

    def answer(self, text):
        """The table that answers the text of an ask; NoText, NoName, and as the asks that are made."""
        return read_ask(text).answer(self.kept_tables)

    def sure(self, text):
        """The sure rows of what answers it; None where no filling keeps its whole; refuses as answer, TooMany."""
        return sure_rows(self.answer(text))

    def may(self, text, row):
        """Whether a row may be in what answers it; refuses as answer, Unlike, TooMany."""
        return maybe(self.answer(text), row)[0] == "may"
