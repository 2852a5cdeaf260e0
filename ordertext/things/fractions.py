"""Fractions: tuples (above, below), below from 1 on, without a common divisor but 1."""

from ordertext.errors import NoNumber
from ordertext.things.halving import many_ahead

FIGURES = "0123456789"
# Python's own int and str refuse numbers of some thousand figures, which
# middles of middles can have; so figures are read and written block by block.
BLOCK = 18
BLOCK_WORTH = 1000000000000000000


def fraction(above, below):
    if below == 0:
        raise NoNumber("a fraction with 0 below")
    divisor = common_divisor(above, below)
    if below < 0:
        divisor = -divisor
    return (above // divisor, below // divisor)


def common_divisor(one, other):
    one = abs(one)
    other = abs(other)
    while other != 0:
        rest = one % other
        one = other
        other = rest
    return one


def compared(one, other):
    left = one[0] * other[1]
    right = other[0] * one[1]
    if left < right:
        return -1
    if left > right:
        return 1
    return 0


def how_stands(one, other):
    size = compared(one, other)
    if size == 0:
        return "same"
    return "less" if size < 0 else "more"


def is_fraction(number):
    return number[1] >= 1 and common_divisor(number[0], number[1]) == 1


def middle(one, other):
    return fraction(one[0] * other[1] + other[0] * one[1], 2 * one[1] * other[1])


# The numbers rise: the place of the first that is not less.
def place_among(numbers, number):
    return many_ahead(len(numbers), lambda place: compared(numbers[place], number) < 0)


def rising(numbers):
    row = []
    for number in numbers:
        place = place_among(row, number)
        if place == len(row) or row[place] != number:
            row.insert(place, number)
    return row


def read_number(text):
    parts = text.split("/")
    if len(parts) > 2:
        raise NoNumber(f"no number: {text!r}")
    above = read_signed(parts[0])
    if len(parts) == 1:
        return (above, 1)
    return fraction(above, read_figures(parts[1]))


def read_signed(text):
    if not text.startswith("-"):
        return read_figures(text)
    number = read_figures(text[1:])
    if number == 0:
        raise NoNumber("a - ahead of 0")
    return -number


def read_figures(text):
    if text == "" or not all([sign in FIGURES for sign in text]):
        raise NoNumber(f"no figures: {text!r}")
    if text.startswith("0") and text != "0":
        raise NoNumber(f"a nought ahead: {text!r}")
    number = 0
    first = len(text) % BLOCK
    if first > 0:
        number = int(text[:first])
    for start in range(first, len(text), BLOCK):
        number = number * BLOCK_WORTH + int(text[start:start + BLOCK])
    return number


def number_shown(number):
    above = figures_of(abs(number[0]))
    if number[0] < 0:
        above = "-" + above
    if number[1] == 1:
        return above
    return above + "/" + figures_of(number[1])


def figures_of(number):
    blocks = []
    while number >= BLOCK_WORTH:
        blocks.append(str(number % BLOCK_WORTH).zfill(BLOCK))
        number = number // BLOCK_WORTH
    blocks.append(str(number))
    return "".join(list(reversed(blocks)))
