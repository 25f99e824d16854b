"""What several tests draw from: conditions of many forms, and the document's words about them, put plainly."""

import itertools
import random
import re

from maybetables.conds import AllOf, OneOf, Opposite, Same, Truth
from maybetables.errors import MaybeError, NoColumn, NoName, Twice, Unlike
from maybetables.fillings import bound, kinds
from maybetables.looking import is_paper
from maybetables.tables import Table

HIGH = 10 ** 60 - 1

# A cell in a text, and a condition after conds_seen.
CELL = "(?:[a-z]{1,8}|0|-?[1-9][0-9]{0,59})"
SEEN = "(?:\x01|yes|no)"
# What stands ahead of a condition or an ask within a text.
AHEAD = r"(?:(?<=[( ])|\A)"


def shape(cond):
    """The condition as nested tuples, by its fields."""
    if isinstance(cond, Truth):
        return ("truth", cond.said)
    if isinstance(cond, Same):
        return ("same", cond.one, cond.other)
    if isinstance(cond, Opposite):
        return ("opposite", shape(cond.part))
    name = "all" if isinstance(cond, AllOf) else "one"
    return (name, [shape(part) for part in cond.parts])


def layered(cond, layers):
    """The condition with so many others around it: an Opposite, an AllOf, a OneOf, an Opposite, and so on."""
    for number in range(layers):
        cond = [Opposite(cond), AllOf([cond, Truth(True)]), OneOf([Truth(False), cond]), Opposite(cond)][number % 4]
    return cond


def small_conds(cells):
    """Every Same of these cells, the Truths, the Opposites of all these, and each AllOf and OneOf of up to two."""
    plain = [Truth(True), Truth(False)] + [Same(one, other) for one in cells for other in cells]
    plain = plain + [Opposite(part) for part in plain]
    told = list(plain)
    for sort in (AllOf, OneOf):
        for many in range(3):
            told.extend(sort(list(parts)) for parts in itertools.product(plain, repeat=many))
    return told


def drawn_cond(chance, gaps, values, atoms, deep):
    """Some condition with about so many atoms, no deeper than told."""
    if deep <= 1 or atoms <= 1:
        if chance.random() < 0.06:
            return Truth(chance.random() < 0.5)
        return Same(chance.choice(gaps + values), chance.choice(gaps + gaps + values))
    if chance.random() < 0.2:
        return Opposite(drawn_cond(chance, gaps, values, atoms, deep - 1))
    many = chance.randint(0 if chance.random() < 0.1 else 2, 4)
    parts = [drawn_cond(chance, gaps, values, atoms // max(many, 1), deep - 1) for number in range(many)]
    return chance.choice([AllOf, OneOf])(parts)


def drawn_conds(many, seed=1):
    """So many conditions over few gaps and values, the same each time."""
    chance = random.Random(seed)
    told = []
    for number in range(many):
        gaps = ["a", "b", "c", "d"][:chance.randint(1, 4)]
        values = [-1, 0, 1, 7][:chance.randint(0, 3)]
        told.append(drawn_cond(chance, gaps, values, chance.randint(1, 24), chance.randint(1, 6)))
    return told


def cells_of(assumed):
    """All cells that stand in assumed things, each once."""
    return list(dict.fromkeys(cell for thing in assumed for cell in thing[:2]))


def agrees(filling, assumed):
    """Whether a filling with all their gaps agrees with assumed things, by the words of 9."""
    def value(cell):
        return filling[cell] if isinstance(cell, str) else cell
    return all((value(one) == value(other)) == said for one, other, said in assumed)


def assumed_so(one, other, said, assumed):
    """Whether two cells are assumed to be alike (or unlike), in either order."""
    return any(thing[2] is said and thing[:2] in ((one, other), (other, one)) for thing in assumed)


def unlike_by_words(one, other, assumed):
    """Whether two cells are two unlike values or assumed to be unlike."""
    values = not isinstance(one, str) and not isinstance(other, str)
    return values and one != other or assumed_so(one, other, False, assumed)


def joined_to(cell, assumed):
    """All cells to which a chain goes from a cell, by the words of 9."""
    reached = [cell]
    for here in reached:
        for further in cells_of(assumed):
            if further not in reached and assumed_so(here, further, True, assumed):
                reached.append(further)
    return reached


def clash_by_words(chain, assumed):
    """Whether a tuple is a clash of assumed things, by the words of 9 and 10."""
    if len(chain) == 0:
        return False
    if not all(assumed_so(one, other, True, assumed) for one, other in zip(chain, chain[1:])):
        return False
    return unlike_by_words(chain[0], chain[-1], assumed)


def known_by_words(cond, assumed):
    """What is known of a condition by assumed things, by the words of 11."""
    if isinstance(cond, Truth):
        return cond.said
    if isinstance(cond, Same):
        first, second = joined_to(cond.one, assumed), joined_to(cond.other, assumed)
        if cond.other in first:
            return True
        apart = any(unlike_by_words(one, other, assumed) for one in first for other in second)
        return False if apart else None
    if isinstance(cond, Opposite):
        said = known_by_words(cond.part, assumed)
        return None if said is None else not said
    settling = isinstance(cond, OneOf)
    told = [known_by_words(part, assumed) for part in cond.parts]
    if settling in told:
        return settling
    return None if None in told else not settling


def paper_by_words(cond, paper, assumed=()):
    """Whether a paper is one for a condition by what is assumed, by the words of 12."""
    assumed = list(assumed)
    if paper[0] == "holds":
        return known_by_words(cond, assumed) is True
    if paper[0] == "clash":
        return clash_by_words(paper[1], assumed)
    sort, one, other, alike, unlike = paper
    return (paper_by_words(cond, alike, assumed + [(one, other, True)])
            and paper_by_words(cond, unlike, assumed + [(one, other, False)]))


def splits_deep(paper):
    """How many splits of a paper stand one within another."""
    if paper[0] != "split":
        return 0
    return 1 + max(splits_deep(paper[3]), splits_deep(paper[4]))


def deep(cond):
    """How many conditions stand one within another."""
    if isinstance(cond, Opposite):
        return 1 + deep(cond.part)
    return 1 + max([deep(part) for part in getattr(cond, "parts", ())], default=0)


def table_shape(table):
    """The table as plain lists and tuples."""
    return (table.columns(), [(cells, shape(cond)) for cells, cond in table.rows()], shape(table.whole()))


def values_by(cells, filling):
    """What cells come to at a filling, as a tuple."""
    return tuple(filling[cell] if isinstance(cell, str) else cell for cell in cells)


def filled_by_words(table, filling):
    """The filled list, by the words of 16."""
    if not table.whole().truth(filling):
        return None
    return sorted({values_by(cells, filling) for cells, cond in table.rows() if cond.truth(filling)})


def drawn_table(chance, columns, rows, gaps, values):
    """Some table with these columns and so many rows, over some of these gaps and values."""
    gaps, values = gaps[:chance.randint(1, len(gaps))], values[:chance.randint(1, len(values))]
    told = []
    for place in range(rows):
        cells = [chance.choice(gaps + values) for column in columns]
        told.append((cells, chance.choice([Truth(True), drawn_cond(chance, gaps, values, 4, 3)])))
    return Table(columns, told, chance.choice([None, drawn_cond(chance, gaps, values, 4, 3)]))


def drawn_tables(many, seed=9):
    """So many tables over few gaps and values, the same each time."""
    chance = random.Random(seed)
    told = []
    for number in range(many):
        columns = ["x", "a", "y", "z"][:chance.randint(0, 4)]
        told.append(drawn_table(chance, columns, chance.randint(0, 5), ["a", "b", "c"], [0, 1, -2]))
    return told


def told_within(test, cond, made_of, tables, further=(), sames=0):
    """Asks what 18 says of a condition that is told: made of these, and so many Sames, for an ask of these tables."""
    gaps = {gap for table in tables for gap in table.gaps()}
    values = {value for table in tables for value in table.standing()} | set(further)
    test.assertLessEqual(set(cond.gaps()), gaps)
    test.assertLessEqual(set(cond.standing()), values)
    test.assertLessEqual(cond.atoms(), sum(part.atoms() for part in made_of) + sames)
    test.assertLessEqual(deep(cond), max(deep(part) for part in made_of) + 4)


def some_fillings(gaps, values):
    """One filling of each kind over gaps and values; where that would be too many, three hundred fillings."""
    gaps, values = sorted(set(gaps)), sorted(set(values))
    if bound(len(gaps), len(values)) <= 1000:
        return kinds(gaps, values)
    chance = random.Random(len(gaps))
    stock = values + [100, 101, 102]
    return [{gap: chance.choice(stock) for gap in gaps} for number in range(300)]


def every_filling(gaps, values, further):
    """Every filling of these gaps with these values and so many further ones."""
    values = sorted(set(values))
    stock = values + [number for number in range(1000, 1000 + further) if number not in values]
    return [dict(zip(gaps, choice)) for choice in itertools.product(stock, repeat=len(gaps))]


def rows_there(table, filling):
    """The rows whose conditions hold at a filling, as tuples of values, whatever the whole says."""
    return [values_by(cells, filling) for cells, cond in table.rows() if cond.truth(filling)]


def in_order(columns, names, cells):
    """Cells that stand in the order of some columns, in the order of these names."""
    return tuple(cells[columns.index(name)] for name in names)


def retold(chance, table):
    """The same table, told otherwise: in another order, with rows twice or parted in two, and rows that never are."""
    cells = table.gaps() + table.standing() + [0]

    def some():
        return Same(chance.choice(cells), chance.choice(cells))
    columns = chance.sample(table.columns(), len(table.columns()))
    rows = []
    for row, cond in table.rows():
        row, part = in_order(table.columns(), columns, row), some()
        rows.extend(chance.choice([[(row, cond)], [(row, cond), (row, AllOf([cond, part]))],
                                   [(row, AllOf([part, cond])), (row, AllOf([cond, Opposite(part)]))]]))
        if chance.random() < 0.3:
            rows.append((row, AllOf([part, Opposite(part)])))
    chance.shuffle(rows)
    return Table(columns, rows, chance.choice([table.whole(), Opposite(Opposite(table.whole()))]))


def spoiled(chance, table):
    """A table with one cell, one row's condition or the whole told otherwise."""
    cells = table.gaps() + table.standing() + [0]
    some = Same(chance.choice(cells), chance.choice(cells))
    rows, whole = table.rows(), table.whole()
    place = chance.randrange(len(rows)) if rows else None
    if place is None or chance.random() < 0.2:
        whole = chance.choice([AllOf, OneOf])([whole, some])
    elif chance.random() < 0.5:
        rows[place] = (rows[place][0], chance.choice([AllOf, OneOf])([rows[place][1], some]))
    else:
        rows[place] = ([chance.choice(cells) for cell in rows[place][0]], rows[place][1])
    return Table(table.columns(), rows, whole)


def cond_written(cond):
    """The text of a condition, by the words of 33."""
    if isinstance(cond, Truth):
        return "yes" if cond.said else "no"
    if isinstance(cond, Same):
        return f"{cond.one}={cond.other}"
    if isinstance(cond, Opposite) and isinstance(cond.part, Same):
        return f"{cond.part.one}#{cond.part.other}"
    if isinstance(cond, Opposite):
        return f"not({cond_written(cond.part)})"
    return ("all(" if isinstance(cond, AllOf) else "any(") + "; ".join(map(cond_written, cond.parts)) + ")"


def given_way(form, text, told):
    """A text in which each place of a form has given way to what is told, again and again."""
    before = None
    while before != text:
        before, text = text, re.sub(AHEAD + form, told, text)
    return text


def conds_seen(text):
    """A text in which each condition by the words of 33 but yes and no has given way to one sign: from within."""
    text = re.sub(AHEAD + f"{CELL}[=#]{CELL}(?=[;)]|\\Z)", "\x01", text)
    return given_way(f"(?:(?:all|any)\\((?:{SEEN}(?:; {SEEN})*)?\\)|not\\({SEEN}\\))", text, "\x01")


def one_sign_otherwise(text, signs):
    """Each text that is a given one with one sign left out, put in, or in another's place, or cut off."""
    told = {text[:place] for place in range(len(text))}
    for place in range(len(text) + 1):
        told.add(text[:place] + text[place + 1:])
        for sign in signs:
            told.add(text[:place] + sign + text[place:])
            told.add(text[:place] + sign + text[place + 1:])
    return sorted(told)


def ask_written(ask):
    """The text of an ask, by the words of 35.

    An ask is told here as a nested tuple: ("name", name), (word, said, part) for keep, take and call, said being a
    condition, a list of names or a list of pairs, and (word, one, other) for cross, join, both and less.
    """
    if ask[0] == "name":
        return ask[1]
    if ask[0] == "keep":
        said = cond_written(ask[1])
    elif ask[0] == "take":
        said = " ".join(ask[1])
    elif ask[0] == "call":
        said = ", ".join(old + " " + new for old, new in ask[1])
    else:
        said = ask_written(ask[1])
    return f"{ask[0]}({said}; {ask_written(ask[2])})"


def plain_of_one(word, said, columns, rows):
    """What keep, take and call make of a pair, by the words of 18 to 20."""
    names = said.gaps() if word == "keep" else list(said) if word == "take" else sorted(dict(said))
    for name in names:
        if name not in columns:
            raise NoColumn(name)
    if word == "keep":
        return columns, [row for row in rows if said.truth(dict(zip(columns, row)))]
    told = names if word == "take" else [dict(said).get(name, name) for name in columns]
    again = [name for place, name in enumerate(told) if name in told[:place]]
    if again:
        raise Twice(again[0] if word == "take" else min(again))
    return told, [in_order(columns, told, row) for row in rows] if word == "take" else rows


def plain_of_two(word, one, other):
    """What cross, join, both and less make of two pairs, by the words of 21 to 24."""
    (columns, rows), (others, other_rows) = one, other
    shared = sorted(set(columns) & set(others))
    if word == "cross" and shared:
        raise Twice(shared[0])
    if word in ("cross", "join"):
        further = [name for name in others if name not in columns]
        return columns + further, [row + in_order(others, further, second) for row in rows for second in other_rows
                                   if in_order(columns, shared, row) == in_order(others, shared, second)]
    if set(columns) != set(others):
        raise Unlike()
    turned = [in_order(others, columns, row) for row in other_rows]
    return columns, rows + turned if word == "both" else [row for row in rows if row not in turned]


def plain_by_words(ask, lists):
    """The pair that an ask, told as in ask_written, makes of lists by names, by the words of 35."""
    if ask[0] == "name" and ask[1] not in lists:
        raise NoName(ask[1])
    if ask[0] == "name":
        columns, rows = lists[ask[1]]
    elif ask[0] in ("keep", "take", "call"):
        columns, rows = plain_of_one(ask[0], ask[1], *plain_by_words(ask[2], lists))
    else:
        one = plain_by_words(ask[1], lists)
        columns, rows = plain_of_two(ask[0], one, plain_by_words(ask[2], lists))
    return list(columns), sorted(set(rows))


def told_or_refused(ask, *handed):
    """What is told, or the refusal's class and fields."""
    try:
        return ask(*handed)
    except MaybeError as refusal:
        return type(refusal), vars(refusal)


def drawn_said(chance, word, columns):
    """What stands ahead of the part in a keep, take or call, mostly such that columns fit it."""
    names = columns + ["q"] if chance.random() < 0.05 else list(columns)
    if word == "keep":
        return drawn_cond(chance, names, [0, 1, -2], chance.randint(1, 5), 3) if names else Truth(True)
    if word == "take":
        return chance.sample(names, chance.randint(len(names) // 2, len(names))) + names[:chance.random() < 0.05]
    olds = chance.sample(names, chance.randint(1, len(names))) if names else ["q"]
    news = chance.sample(["x", "y", "z", "u", "v", "w", "keep", "yes"], len(olds))
    return list(zip(olds, chance.choice([news, chance.sample(olds, len(olds))])))


def drawn_ask(chance, lists, within, pairs=3):
    """Some ask of lists by names, with so many asks one within another and so many of two parts at most.

    It is told as in ask_written; what it makes of the lists is mostly not refused.
    """
    if within == 1 or chance.random() < 0.1:
        return ("name", chance.choice(sorted(lists)) if chance.random() < 0.99 else "none")
    if pairs and chance.random() < 0.5:
        one = drawn_ask(chance, lists, within - 1, (pairs - 1) // 2)
        other = drawn_ask(chance, lists, within - 1, pairs - 1 - (pairs - 1) // 2)
        return fitted(chance, chance.choice(["cross", "join", "both", "less"]), one, other, lists)
    part = drawn_ask(chance, lists, within - 1, pairs)
    word = chance.choice(["keep", "keep", "take", "call"])
    told = told_or_refused(plain_by_words, part, lists)
    return (word, drawn_said(chance, word, told[0] if isinstance(told[0], list) else ["x"]), part)


def fitted(chance, word, one, other, lists):
    """An ask of two parts; where it would be refused, mostly one of the other word sorts that is not."""
    words = [word] + chance.sample(["join", "less", "both", "cross"], 4)
    fitting = [word for word in words
               if isinstance(told_or_refused(plain_by_words, (word, one, other), lists)[0], list)]
    return (fitting[0] if fitting and chance.random() < 0.95 else word, one, other)


def refused(test, error, ask, *handed):
    """The refusal, which is to be of just this class."""
    with test.assertRaises(error) as caught:
        ask(*handed)
    test.assertIsInstance(caught.exception, MaybeError)
    test.assertIs(type(caught.exception), error)
    return caught.exception


def paper_right(test, cond, paper):
    """Asks that a paper that was told is one for a condition, and no deeper than the document says."""
    test.assertIs(is_paper(cond, paper), True)
    test.assertLessEqual(splits_deep(paper), 100)
    # A deep paper takes long by the words, and is_paper has tests of its own.
    if splits_deep(paper) < 10 and cond.atoms() < 1000:
        test.assertIs(paper_by_words(cond, paper), True)


def filling_right(test, filling, gaps):
    """Asks that a filling that was told is one of just these gaps."""
    test.assertIs(type(filling), dict)
    test.assertEqual(sorted(filling), sorted(gaps))
    for value in filling.values():
        test.assertIs(type(value), int)
