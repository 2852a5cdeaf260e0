"""Numbers handed in as places of a row."""


def are_places(numbers, many):
    return all([0 <= number < many for number in numbers])


# Whether in the parts together each of so many places stands once, and nothing else.
def cover(parts, many):
    places = []
    for part in parts:
        places.extend(part)
    return sorted(places) == list(range(many))
