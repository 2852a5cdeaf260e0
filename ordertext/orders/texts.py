"""Orders read from texts and shown as texts."""

from ordertext.errors import NoField, NoNumber, NoOrder
from ordertext.orders.words import WORDS, is_name
from ordertext.things.fractions import number_shown, read_number, rising


def read_order(text, book):
    order = []
    fields = []
    # What is still to come, the next of it last: a walk by such a row goes as
    # deep as the text is long, where calls within calls could not.
    needs = ["order"]
    for word in text.split(" "):
        if needs == []:
            raise NoOrder(f"left over: {word!r}")
        need = needs.pop()
        order.append(read_word(word, need))
        if need == "field":
            fields.append(word)
        elif need != "number":
            needs.extend(reversed_parts(word))
    if needs != []:
        raise NoOrder("the text is cut off")
    # Only of a whole order it is asked whether the book has its fields.
    for field in fields:
        if field not in book:
            raise NoField(field)
    return tuple(order)


def read_word(word, need):
    if need == "number":
        return read_order_number(word)
    if need == "field":
        if not is_name(word):
            raise NoOrder(f"no name of a field: {word!r}")
    elif word not in WORDS or WORDS[word][0] != need:
        raise NoOrder(f"begins no {need}: {word!r}")
    return word


def read_order_number(word):
    try:
        return read_number(word)
    except NoNumber as refusal:
        raise NoOrder(f"no number: {word!r}") from refusal


def reversed_parts(word):
    return list(reversed(WORDS[word][1]))


def order_shown(order):
    return " ".join([word_shown(word) for word in order])


def word_shown(word):
    if isinstance(word, str):
        return word
    return number_shown(word)


def numbers_of(order):
    return tuple(rising([word for word in order if isinstance(word, tuple)]))
