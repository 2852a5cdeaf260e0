"""What is asked of cases: which looks are to be told, and whether what they tell holds."""

from ordertext.cases.rests import open_look
from ordertext.orders.looks import looks_agree
from ordertext.orders.telling import OTHER_WAY

PAIRS = ((0, 1), (0, 2), (1, 2))


def order_looks(order, book):
    # The looks at the second and the first of two are told just where these are,
    # and the other way about.
    return tuple([open_look(order, book, first, second) for first, second in PAIRS])


def order_holds(looks):
    back = [OTHER_WAY[look] for look in looks]
    return looks_agree([
        ["like", looks[0], looks[1]],
        [back[0], "like", looks[2]],
        [back[1], back[2], "like"],
    ])


def alike_looks(one, other, book):
    return (open_look(one, book, 0, 1), open_look(other, book, 0, 1))


def alike_holds(looks):
    return looks[0] == looks[1]
