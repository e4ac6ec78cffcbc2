"""First come: each key at the first empty place from its home on, and the ways that come of it."""

from strewn.errors import Full
from strewn.homes import check_key, check_keys, check_rule, check_size, reckon_home
from strewn.rings import next_place, way_on


def first_places(starts, size):
    # The dict keeps the places in the order in which they were taken: one for each home, in their order.
    taken = {}
    for start in starts:
        place = start
        while place in taken:
            place = next_place(place, size)
        taken[place] = True
    return list(taken)


def first_come(rule, size, keys):
    check_rule(rule)
    check_size(size)
    check_keys(keys)
    if len(keys) > size - 1:
        raise Full("no room: one place stays empty")
    starts = [reckon_home(rule, key, size) for key in keys]
    told = [None] * size
    for key, place in zip(keys, first_places(starts, size)):
        told[place] = key
    return told


def ways(rule, places):
    check_rule(rule)
    size = len(places)
    check_size(size)
    for key in places:
        if key is not None:
            check_key(key)
    return sum([
        way_on(reckon_home(rule, key, size), place, size) for place, key in enumerate(places) if key is not None
    ])
