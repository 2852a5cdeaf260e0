"""What tests of papers need: points [10] to [12] done the plain way, way by way, and papers spoilt by one knot."""

import itertools
from fractions import Fraction

from some_orders import OTHER_WAY, fraction_of, read_part


def at(number, field=0):
    return ("thing", number, field)


def num(value):
    return ("number", fraction_of(value))


def put_together(facts, points):
    """For each two points 1 where facts lead from the one to the other, 2 where through a less."""
    points = sorted({point for fact in facts for point in (fact[0], fact[2])} | set(points))
    led = {(one, one): 1 for one in points}
    for one, other in itertools.permutations([point for point in points if point[0] == "number"], 2):
        if Fraction(*one[1]) < Fraction(*other[1]):
            led[one, other] = 2
    for one, how, other in facts:
        led[one, other] = max(led.get((one, other), 0), 2 if how == "less" else 1)
        if how == "same":
            led[other, one] = max(led.get((other, one), 0), 1)
    for middle, one, other in itertools.product(points, points, points):
        if (one, middle) in led and (middle, other) in led:
            led[one, other] = max(led.get((one, other), 0), led[one, middle], led[middle, other])
    return led


def fit(facts):
    return all(one != other or how == 1 for (one, other), how in put_together(facts, ()).items())


def tells(led, one, other):
    if led.get((one, other)) == 2:
        return "less"
    if led.get((other, one)) == 2:
        return "more"
    return "same" if (one, other) in led else None


def plain_look(part, book, led, first, second):
    """What facts tell of a look or a case, by the words of point [11]; None where they do not."""
    word, parts = part[0], part[1:]
    if word == "like":
        return "like"
    if word in ("up", "down", "same"):
        place = book.index(parts[0])
        told = tells(led, at(first, place), at(second, place))
        if told is None or word == "same":
            return None if told is None else told == "same"
        return {"less": "ahead", "same": "like", "more": "behind"}[told] if word == "up" else \
            {"less": "behind", "same": "like", "more": "ahead"}[told]
    if word == "then":
        told = plain_look(parts[0], book, led, first, second)
        return plain_look(parts[1], book, led, first, second) if told == "like" else told
    if word == "turn":
        return plain_look(parts[0], book, led, second, first)
    if word == "pick":
        told = plain_look(parts[0], book, led, first, second)
        return None if told is None else plain_look(parts[1] if told else parts[2], book, led, first, second)
    if word == "not":
        told = plain_look(parts[0], book, led, first, second)
        return None if told is None else not told
    if word in ("both", "either"):
        how, name, number = parts[0]
        told = [tells(led, at(thing, book.index(name)), ("number", number)) for thing in (first, second)]
        truths = [None if one is None else one == ("less" if how == "under" else "same") for one in told]
    else:
        truths = [plain_look(case, book, led, first, second) for case in parts]
    settles = word in ("either", "or")
    if settles in truths:
        return settles
    return None if None in truths else not settles


def plain_three(look):
    """Point [8] of three things, of whose looks each is told."""
    looks = {pair: look(*pair) for pair in itertools.permutations(range(3), 2)}
    if None in looks.values():
        return False
    looks.update({(one, one): "like" for one in range(3)})
    if any(looks[one, other] != OTHER_WAY[looks[other, one]] for one, other in looks):
        return False
    for one, two, three in itertools.product(range(3), repeat=3):
        told = [looks[one, two], looks[two, three], looks[one, three]]
        if "behind" not in told[:2] and (told[2] == "behind" or (told[2] == "like" and told != ["like"] * 3)):
            return False
    return True


def plain_order_shown(order, book, paper):
    part = read_part(list(order))

    def holds(facts):
        led = put_together(facts, [("number", word) for word in order if isinstance(word, tuple)])
        return plain_three(lambda first, second: plain_look(part, book, led, first, second))
    return plain_let_by(paper, book, holds)


def plain_alike_shown(one, other, book, paper):
    parts = [read_part(list(order)) for order in (one, other)]

    def holds(facts):
        led = put_together(facts, [("number", word) for word in one + other if isinstance(word, tuple)])
        told = [plain_look(part, book, led, 0, 1) for part in parts]
        return None not in told and told[0] == told[1]
    return plain_let_by(paper, book, holds)


def plain_let_by(paper, book, holds):
    def is_point(point):
        return point[0] == "number" or (point[1] in range(3) and point[2] in range(len(book)))

    def go(number, facts):
        if not fit(facts):
            return True
        if paper[number] == ("end",):
            return holds(facts)
        one, other = paper[number][1:3]
        more = ((one, "less", other), (one, "same", other), (other, "less", one))
        return all(go(onward, facts + [fact]) for onward, fact in zip(paper[number][3:], more))

    for number, knot in enumerate(paper):
        if knot[0] == "split":
            one, other = knot[1:3]
            kinds = {point[0] for point in (one, other)}
            if not is_point(one) or not is_point(other) or kinds == {"number"}:
                return False
            if kinds == {"thing"} and one[2] != other[2]:
                return False
            if not all(number < onward < len(paper) for onward in knot[3:]):
                return False
    return len(paper) > 0 and go(0, [])


def spoilt(chance, paper, book, numbers):
    """The paper with one knot spoilt in one of many ways, told with it."""
    if chance.randrange(8) == 0:
        return "cut off", paper[:chance.randrange(len(paper))]
    # Ends that no way comes to, so that the last one can be spoilt like any other.
    paper += (("end",), ("end",))
    place = chance.randrange(len(paper) - 2)
    knot = paper[place]
    if knot == ("end",):
        points = (at(0), at(chance.randrange(3)))
        onward = tuple(chance.choice([len(paper), len(paper) - 1, len(paper) - 2, place]) for way in range(3))
        return "a split for an end", paper[:place] + (("split",) + points + onward,) + paper[place + 1:]
    points, onward = list(knot[1:3]), list(knot[3:])
    how = chance.choice(["end", "exchange", "number", "points", "field", "other point", "number for one"])
    if how == "exchange":
        one, other = chance.sample(range(3), 2)
        onward[one], onward[other] = onward[other], onward[one]
    elif how == "number":
        onward[chance.randrange(3)] = chance.choice([place, place - 1, place + 1, 0, -1, len(paper), len(paper) - 1])
    elif how == "points":
        points.reverse()
    elif how == "field":
        field = chance.choice([-1, 0, len(book) - 1, len(book)])
        points = [point if point[0] == "number" else ("thing", point[1], field) for point in points]
        if chance.randrange(2):
            points[1] = knot[2]
    elif how == "other point":
        points[chance.randrange(2)] = ("thing", chance.randrange(3), chance.randrange(len(book)))
    elif how == "number for one":
        points[chance.randrange(2)] = ("number", chance.choice(numbers))
    new = ("end",) if how == "end" else ("split",) + tuple(points) + tuple(onward)
    return how, paper[:place] + (new,) + paper[place + 1:]


def some_paper(chance, fields, numbers, many, good):
    """Splits by chance whose ways meet, and lead to a good paper or, some of them, to an end."""
    knots = []
    bad = many + len(good)
    for place in range(many):
        field = chance.randrange(fields)
        others = [at(chance.randrange(3), field), ("number", chance.choice(numbers))]
        points = [at(chance.randrange(3), field), chance.choice(others)]
        chance.shuffle(points)
        onward = [min(chance.randrange(place + 1, place + 4), many) for way in range(3)]
        if place > many // 2 and chance.randrange(2):
            onward[chance.randrange(3)] = bad
        knots.append(("split",) + tuple(points) + tuple(onward))
    knots += [knot[:3] + tuple(onward + many for onward in knot[3:]) for knot in good]
    return tuple(knots) + (("end",),)
