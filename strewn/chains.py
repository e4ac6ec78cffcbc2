"""Chains: each place has all keys whose home it is; and how long the longest one is over all scatterings."""

from strewn.fractions import fraction
from strewn.homes import check_count, check_keys, check_rule, check_size, reckon_home
from strewn.powers import power

MOST_SCATTERED = 64


def chains(rule, size, keys):
    check_rule(rule)
    check_size(size)
    check_keys(keys)
    told = [[] for place in range(size)]
    for key in sorted(keys):
        told[reckon_home(rule, key, size)].append(key)
    return told


def choices(many, few):
    told = 1
    for step in range(few):
        told = told * (many - step) // (step + 1)
    return told


# There are too many scatterings to go through. Those of one key more come of those of the keys so far, in which
# the new key may have any home but one that has the most keys already. With such a home: choose which keys these are,
# and scatter the others over the other homes.
def counts_of_one_more(counts, most):
    keys = len(counts) - 1
    chosen = choices(keys, most)
    told = [0]
    for homes in range(1, len(counts[keys])):
        allowed = counts[keys][homes]
        if keys >= most:
            allowed = allowed - chosen * counts[keys - most][homes - 1]
        told.append(homes * allowed)
    return told


def scatterings_up_to(size, many, most):
    # For each count of keys a list: at each number of homes, how many scatterings have no chain above the most.
    counts = [[1] * (size + 1)]
    for step in range(many):
        counts.append(counts_of_one_more(counts, most))
    return counts[many][size]


def longest(size, many):
    check_size(size)
    check_count(many, 0, MOST_SCATTERED)
    return [scatterings_up_to(size, many, most) for most in range(many + 1)]


def mean_longest(size, many):
    # The longest chain has as many keys as there are numbers n that it is above.
    within = longest(size, many)
    scatterings = power(size, many)
    above = sum([scatterings - count for count in within])
    return fraction(above, scatterings)
