"""What an order tells of two things, part by part, where not all of them need be known.

An order tells ahead, like or behind, a case holds or not, a mark holds or not of
the first and of the second; None stands wherever that is not known.
"""

from ordertext.orders.words import WORDS

OTHER_WAY = {"ahead": "behind", "like": "like", "behind": "ahead"}


def telling(order, field_told, mark_told):
    # Behind each word stand its parts, so from the last word on each word finds
    # its parts told already, the first one uppermost.
    told = []
    for word in reversed(order):
        if word in WORDS:
            told.append(word_told(word, taken(told, len(WORDS[word][1])), field_told, mark_told))
        else:
            told.append(word)
    return told[0]


def taken(told, many):
    parts = []
    while len(parts) < many:
        parts.append(told.pop())
    return parts


def word_told(word, parts, field_told, mark_told):
    kind = WORDS[word][0]
    if kind == "order":
        return order_told(word, parts, field_told)
    if kind == "case":
        return case_told(word, parts, field_told)
    return mark_told(word, parts[0], parts[1])


def order_told(word, parts, field_told):
    if word == "like":
        return "like"
    if word == "up":
        return field_told(parts[0])
    if word == "down":
        return OTHER_WAY.get(field_told(parts[0]))
    if word == "turn":
        # A case holds of the second and the first where it holds of the first and
        # the second, so of them any order tells just the other way about.
        return OTHER_WAY.get(parts[0])
    if word == "then":
        return parts[1] if parts[0] == "like" else parts[0]
    return picked(parts[0], parts[1], parts[2])


def picked(case, one, other):
    if case is None:
        return None
    return one if case else other


def case_told(word, parts, field_told):
    if word == "same":
        told = field_told(parts[0])
        return None if told is None else told == "like"
    if word == "not":
        return None if parts[0] is None else not parts[0]
    if word == "and":
        return all_told(parts)
    if word == "or":
        return any_told(parts)
    return all_told(parts[0]) if word == "both" else any_told(parts[0])


def all_told(truths):
    if False in truths:
        return False
    return None if None in truths else True


def any_told(truths):
    if True in truths:
        return True
    return None if None in truths else False
