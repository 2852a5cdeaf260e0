"""Whether an order is one for all things, with a paper or with things that show it."""

from ordertext.cases.asked import order_holds, order_looks
from ordertext.cases.models import things_of
from ordertext.cases.papers import written


def judged(order, book):
    writer = written(order_looks(order, book), order_holds, len(book))
    if writer.against is None:
        return ("order", writer.whole())
    return ("fails", things_of(writer.against, len(book)))
