"""Homes of keys: the places that rules tell."""

from strewn.errors import BadKey, BadRule, BadSize
from strewn.powers import power

MOST_KEY = 999999
LEAST_SIZE = 2
MOST_SIZE = 64
MOST_FACTOR = 999999
LEAST_BITS = 1
MOST_BITS = 30
MOST_TOLD = 999
LEAST_TOLD_COUNT = 1
MOST_TOLD_COUNT = 64


def is_whole(thing, least, most):
    # Truths are ints to Python, but no whole numbers here.
    if isinstance(thing, bool) or not isinstance(thing, int):
        return False
    return least <= thing <= most


def is_times_rule(rule):
    return len(rule) == 3 and is_whole(rule[1], 0, MOST_FACTOR) and is_whole(rule[2], 0, MOST_FACTOR)


def is_high_rule(rule):
    return len(rule) == 3 and is_whole(rule[1], 0, MOST_FACTOR) and is_whole(rule[2], LEAST_BITS, MOST_BITS)


def is_told_rule(rule):
    if len(rule) != 2 or not isinstance(rule[1], tuple):
        return False
    if not LEAST_TOLD_COUNT <= len(rule[1]) <= MOST_TOLD_COUNT:
        return False
    return all([is_whole(number, 0, MOST_TOLD) for number in rule[1]])


def is_rule(thing):
    # The sort is compared only once it is known to be a text: anything may stand there.
    if not isinstance(thing, tuple) or len(thing) == 0 or not isinstance(thing[0], str):
        return False
    if thing[0] == "times":
        return is_times_rule(thing)
    if thing[0] == "high":
        return is_high_rule(thing)
    return thing[0] == "told" and is_told_rule(thing)


# The words of these refusals don't show the thing itself: to show anything may fail,
# as it does with a number of very many digits.
def check_rule(rule):
    if not is_rule(rule):
        raise BadRule("no rule")


def check_key(key):
    if not is_whole(key, 0, MOST_KEY):
        raise BadKey("no key: a whole number from 0 to 999999 is asked for")


def check_keys(keys):
    seen = {}
    for key in keys:
        check_key(key)
        if key in seen:
            raise BadKey("a key is told twice")
        seen[key] = True


def check_size(size):
    if not is_whole(size, LEAST_SIZE, MOST_SIZE):
        raise BadSize("no size: a whole number from 2 to 64 is asked for")


def check_count(count, least, most):
    if not is_whole(count, least, most):
        raise BadSize("a count, a step or a limit lies beyond its bounds")


# Apart from home, since growing tables reckon homes by sizes that home refuses.
def reckon_home(rule, key, size):
    if rule[0] == "times":
        return (rule[1] * key + rule[2]) % size
    if rule[0] == "high":
        whole = power(2, rule[2])
        rest = (rule[1] * key) % whole
        return (rest * size) // whole
    numbers = rule[1]
    return numbers[key % len(numbers)] % size


def home(rule, key, size):
    check_rule(rule)
    check_key(key)
    check_size(size)
    return reckon_home(rule, key, size)
