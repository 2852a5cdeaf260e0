"""What an order tells of two things, part by part, where not all of them need be known.

An order tells ahead, like or behind; a case holds or not. A part of which that is not
known is open, a tuple: ("look", one, other), ("less", one, other), ("same", one, other),
told by how one stands to other; or a word and the parts that it puts together.
"""

from ordertext.orders.words import WORDS

ASKED = ("look", "less", "same")
AHEAD = {"less": "ahead", "same": "like", "more": "behind"}
OTHER_WAY = {"ahead": "behind", "like": "like", "behind": "ahead"}


def telling(order, by_field, by_mark):
    # Behind each word stand its parts, so from the last word on each word finds
    # its parts told already, the first one uppermost.
    told = []
    for word in reversed(order):
        if word in WORDS:
            told.append(word_told(word, taken(told, len(WORDS[word][1])), by_field, by_mark))
        else:
            told.append(word)
    return told[0]


def taken(told, many):
    parts = []
    while len(parts) < many:
        parts.append(told.pop())
    return parts


def word_told(word, parts, by_field, by_mark):
    if word == "like":
        return "like"
    if word == "up":
        return by_field("look", parts[0])
    if word == "down":
        return turned_about(by_field("look", parts[0]))
    if word == "same":
        return by_field("same", parts[0])
    if word == "under":
        return by_mark("less", parts[0], parts[1])
    if word == "is":
        return by_mark("same", parts[0], parts[1])
    if word == "both":
        return settled_by(False, "and", parts[0])
    if word == "either":
        return settled_by(True, "or", parts[0])
    return put_together(word, parts)


def put_together(word, parts):
    if word == "then":
        return one_then_other(parts[0], parts[1])
    if word == "turn":
        return turned_about(parts[0])
    if word == "pick":
        return picked(parts[0], parts[1], parts[2])
    if word == "not":
        return ("not", parts[0]) if is_open(parts[0]) else not parts[0]
    return settled_by(word == "or", word, parts)


def is_open(part):
    return isinstance(part, tuple)


def answer(word, how):
    return AHEAD[how] if word == "look" else how == word


def one_then_other(one, other):
    if is_open(one):
        return ("then", one, other)
    return other if one == "like" else one


def turned_about(part):
    # A case holds of the second and the first where it holds of the first and the
    # second, so of them any order tells just the other way about.
    return ("turn", part) if is_open(part) else OTHER_WAY[part]


def picked(case, one, other):
    if is_open(case):
        return ("pick", case, one, other)
    return one if case else other


def settled_by(truth, word, parts):
    if truth in parts:
        return truth
    rest = [part for part in parts if is_open(part)]
    if rest == []:
        return not truth
    return rest[0] if len(rest) == 1 else (word, rest[0], rest[1])
