"""The ring of places: behind the last one comes the first."""


def next_place(place, size):
    return (place + 1) % size


def way_on(start, place, size):
    # A rest by the size is never below nought, so ways over the ring's end come out right, too.
    return (place - start) % size
