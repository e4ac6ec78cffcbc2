"""Averages: ways and looks by first come, reckoned exactly over all scatterings."""

from strewn.errors import TooMany
from strewn.firsts import first_places
from strewn.fractions import fraction
from strewn.homes import check_count, check_size
from strewn.powers import power
from strewn.rings import way_on

MOST_SCATTERINGS = 4096


def check_many(size, many, least):
    check_size(size)
    check_count(many, least, size - 1)


def starts_of(number, size, many):
    # The numbers below size to the power of many, written by that size, are all scatterings, each once.
    starts = []
    for step in range(many):
        starts.append(number % size)
        number = number // size
    return starts


def ways_together(starts, size):
    return sum([way_on(start, place, size) for start, place in zip(starts, first_places(starts, size))])


def spread(size, many):
    check_many(size, many, 0)
    scatterings = power(size, many)
    if scatterings > MOST_SCATTERINGS:
        raise TooMany("more than 4096 scatterings")
    # A key's way is at most as long as there are keys already; where all homes are one, it is so for each.
    greatest = many * (many - 1) // 2
    counts = [0] * (greatest + 1)
    for number in range(scatterings):
        together = ways_together(starts_of(number, size, many), size)
        counts[together] = counts[together] + 1
    return counts


# There are too many scatterings to go through. Knuth (The Art of Computer Programming, volume 3, 6.4, theorem K)
# proves of looks by first come: miss is half of 1 and Q(many; 1, 2, 3, ..), hit is half of 1 and
# Q(many less 1; 1, 1, 1, ..), where Q(n; weights) is the sum, for k from 0 to n, of the weight k
# times n (n - 1) .. (n - k + 1), by size to the power k.
def half_of_one_and_series(size, weights):
    n = len(weights) - 1
    under = power(size, n)
    top = 0
    falling = 1
    for k, weight in enumerate(weights):
        top = top * size + weight * falling
        falling = falling * (n - k)
    return fraction(under + top, 2 * under)


def hit(size, many):
    check_many(size, many, 1)
    return half_of_one_and_series(size, [1] * many)


def miss(size, many):
    check_many(size, many, 0)
    return half_of_one_and_series(size, list(range(1, many + 2)))
