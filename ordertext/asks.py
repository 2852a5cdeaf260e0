"""The lines that a desk is asked: their parts, or NoAsk where they are none."""

from ordertext.errors import NoAsk, NoNumber
from ordertext.orders.words import is_name
from ordertext.things.fractions import read_figures

MOST_FIELDS = 3

# For each word that begins a line the parts behind it; a text is all the rest of the line.
# Of fields, put and fronts one part stands for as many as there may be.
PARTS = {
    "fields": ("name",),
    "order": ("name", "text"),
    "judge": ("text",),
    "same": ("kept", "kept"),
    "put": ("number",),
    "take": ("figures",),
    "turn": ("figures", "name", "number"),
    "row": ("kept",),
    "place": ("kept", "figures"),
    "first": ("kept", "figures"),
    "moves": ("kept", "kept"),
    "fronts": ("kept",),
}


# The word of a line and its parts, figures as whole numbers, by the book (without fields
# where none are told yet) and the names by which orders are kept. Numbers and texts are
# left as they stand: what they refuse comes behind all that is refused here.
def parts_of(line, book, names):
    word = line.split(" ")[0]
    if word not in PARTS or (book == () and word != "fields"):
        raise NoAsk("no such line, or no fields yet")
    kinds = kinds_of(word, line.count(" "), book)
    parts = line.split(" ", len(kinds)) if kinds[-1] == "text" else line.split(" ")
    if len(parts) != len(kinds) + 1:
        raise NoAsk("too few parts, or too many")
    if word == "fields" and len(set(parts[1:])) != len(kinds):
        raise NoAsk("a field twice")
    return [word] + [part_of(kind, part, names) for kind, part in zip(kinds, parts[1:])]


def kinds_of(word, many, book):
    if word == "fields":
        return PARTS[word] * max(1, min(many, MOST_FIELDS))
    if word == "put":
        return PARTS[word] * len(book)
    if word == "fronts":
        return PARTS[word] * max(1, many)
    return PARTS[word]


def part_of(kind, part, names):
    if kind == "figures":
        return figures_in(part)
    if kind == "name" and not is_name(part):
        raise NoAsk(f"no name: {part!r}")
    if kind == "kept" and part not in names:
        raise NoAsk(f"no order is kept by this name: {part!r}")
    return part


def figures_in(part):
    try:
        return read_figures(part)
    except NoNumber as refusal:
        raise NoAsk(f"no figures: {part!r}") from refusal
