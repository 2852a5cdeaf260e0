"""Whether two orders tell the same of any two things, with a paper or with two that part them."""

from ordertext.cases.asked import alike_holds, alike_looks
from ordertext.cases.models import things_of
from ordertext.cases.papers import written


def alike(one, other, book):
    writer = written(alike_looks(one, other, book), alike_holds, len(book))
    if writer.against is None:
        return ("alike", writer.whole())
    return ("parted", things_of(writer.against, len(book))[:2])
