"""Asks: read out of texts, answered out of tables, and answered plainly out of lists."""

from maybetables.choosing import called, chosen, narrowed
from maybetables.errors import NoName, NoText
from maybetables.pairing import crossed, joined, less, together
from maybetables.plains import plain_called, plain_chosen, plain_crossed, plain_joined
from maybetables.plains import plain_less, plain_narrowed, plain_together, tidy
from maybetables.texts import MOST_WITHIN, Reader, cond_next

# So many asks may stand one within another.
MOST_ASKS = 10


def named(name, things):
    """What a dict has by a name; NoName."""
    if name not in things:
        raise NoName(name)
    return things[name]


class Ask:
    """Any ask.

    Each sort has two methods: answer(tables), a Table, out of a dict from names to Tables, and plain(lists), a pair
    (columns, rows), out of a dict from names to such pairs. Both refuse with NoName, and as the asks that are made.
    """


class Named(Ask):
    """The table of a name."""

    def __init__(self, name):
        self.name = name

    def answer(self, tables):
        return named(self.name, tables)

    def plain(self, lists):
        columns, rows = named(self.name, lists)
        return tidy(columns, rows)


class OfOne(Ask):
    """An ask of one part. Each sort has two methods: of_table(table) and of_list(pair), what is made of it."""

    def __init__(self, part):
        self.part = part

    def answer(self, tables):
        return self.of_table(self.part.answer(tables))

    def plain(self, lists):
        return self.of_list(self.part.plain(lists))


class Keep(OfOne):
    """Rows chosen by a condition."""

    def __init__(self, cond, part):
        self.cond = cond
        OfOne.__init__(self, part)

    def of_table(self, table):
        return chosen(table, self.cond)

    def of_list(self, pair):
        return plain_chosen(pair, self.cond)


class Take(OfOne):
    """Narrowed to some columns."""

    def __init__(self, names, part):
        self.names = tuple(names)
        OfOne.__init__(self, part)

    def of_table(self, table):
        return narrowed(table, self.names)

    def of_list(self, pair):
        return plain_narrowed(pair, self.names)


class Call(OfOne):
    """Columns called otherwise, by pairs of an old name and a new one."""

    def __init__(self, pairs, part):
        self.renamed = dict(pairs)
        OfOne.__init__(self, part)

    def of_table(self, table):
        return called(table, self.renamed)

    def of_list(self, pair):
        return plain_called(pair, self.renamed)


class OfTwo(Ask):
    """An ask of two parts. Each sort has two methods: of_tables(one, other) and of_lists(one, other)."""

    def __init__(self, one, other):
        self.one = one
        self.other = other

    def answer(self, tables):
        first = self.one.answer(tables)
        return self.of_tables(first, self.other.answer(tables))

    def plain(self, lists):
        first = self.one.plain(lists)
        return self.of_lists(first, self.other.plain(lists))


class Cross(OfTwo):
    """Each row with each row."""

    def of_tables(self, one, other):
        return crossed(one, other)

    def of_lists(self, one, other):
        return plain_crossed(one, other)


class Join(OfTwo):
    """Each row with each row that is alike in the columns of both."""

    def of_tables(self, one, other):
        return joined(one, other)

    def of_lists(self, one, other):
        return plain_joined(one, other)


class Both(OfTwo):
    """Put together."""

    def of_tables(self, one, other):
        return together(one, other)

    def of_lists(self, one, other):
        return plain_together(one, other)


class Less(OfTwo):
    """The one without what the other has."""

    def of_tables(self, one, other):
        return less(one, other)

    def of_lists(self, one, other):
        return plain_less(one, other)


def ask_next(reader, most):
    """The ask that stands next, with so many one within another at most."""
    if most == 0:
        raise NoText()
    word = reader.word()
    if not reader.taken("("):
        return Named(word)
    if word in ("keep", "take", "call"):
        ask = of_one_next(word, reader, most - 1)
    else:
        ask = of_two_next(word, reader, most - 1)
    reader.needed(")")
    return ask


def of_one_next(word, reader, most):
    """The ask of one part that stands next, within brackets, by the word ahead of them."""
    if word == "keep":
        cond = cond_next(reader, MOST_WITHIN)
        reader.needed("; ")
        return Keep(cond, ask_next(reader, most))
    if word == "take":
        names = reader.several(" ", "; ", lambda: reader.word())
        return Take(names, ask_next(reader, most))
    pairs = reader.several(", ", "; ", lambda: pair_next(reader))
    olds = [old for old, new in pairs]
    if not olds or len(set(olds)) < len(olds):
        raise NoText()
    return Call(pairs, ask_next(reader, most))


def pair_next(reader):
    """The old name and the new one that stand next."""
    old = reader.word()
    reader.needed(" ")
    return (old, reader.word())


def of_two_next(word, reader, most):
    """The ask of two parts that stands next, within brackets, by the word ahead of them."""
    one = ask_next(reader, most)
    reader.needed("; ")
    other = ask_next(reader, most)
    if word == "cross":
        return Cross(one, other)
    if word == "join":
        return Join(one, other)
    if word == "both":
        return Both(one, other)
    if word == "less":
        return Less(one, other)
    raise NoText()


def read_ask(text):
    """The ask that is written so; NoText."""
    reader = Reader(text)
    ask = ask_next(reader, MOST_ASKS)
    reader.ended()
    return ask
