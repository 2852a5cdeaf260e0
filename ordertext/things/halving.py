"""A place found by halving."""


# Of so many places, of which those that lie ahead come first: how many of them do. At
# most as many are asked about as bits are needed to write how many places there are.
def many_ahead(places, lies_ahead):
    low = 0
    high = places
    while low < high:
        half = (low + high) // 2
        if lies_ahead(half):
            low = half + 1
        else:
            high = half
    return low
