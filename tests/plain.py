"""What several files of tests need: rules, keys, and reckonings that follow the document's words step by step."""

import itertools

RULES = (
    ("times", 1, 0),
    ("times", 7, 5),
    ("times", 0, 1),             # one home for all
    ("times", 999999, 999999),
    ("high", 5, 3),
    ("high", 1, 1),              # two homes
    ("high", 999999, 30),
    ("told", (0,)),
    ("told", (3, 999, 0)),
    ("told", (63, 62, 63, 0, 1, 63)),
)
WRONG_RULES = (None, [], (), "times", ["times", 1, 0], ("times", 1), ("high", 5, 31), ("told", ()), ("low", 1, 2))
WRONG_SIZES = (1, 65, 0, -2, 1000, True, False, None, "5", [], (5,))
WRONG_KEYS = (-1, 1000000, 10 ** 6000, True, False, "", "7", [], [7], (7,), {7: 7}, 7.0)


def keys_of(many, turn=0):
    """So many keys, from all over, none twice."""
    return [(step * 7919 + turn * 104729) % 1000000 for step in range(many)]


def mixed(keys, turn):
    return sorted(keys, key=lambda key: (key * 31337 + 17) * (turn * 7919 + 101) % 1000003)


def drawn(turn):
    """A function that tells one number behind the other, the same each time: the next one below what is asked."""
    state = [turn * 2654435761 + 12345]

    def number(below):
        state[0] = (state[0] * 6364136223846793005 + 1442695040888963407) % 2 ** 64
        return (state[0] >> 33) % below

    return number


def home_of(rule, key, size):
    """By the words of [12], for any size."""
    if rule[0] == "times":
        return (rule[1] * key + rule[2]) % size
    if rule[0] == "high":
        return rule[1] * key % 2 ** rule[2] * size // 2 ** rule[2]
    return rule[1][key % len(rule[1])] % size


def way(rule, key, place, size):
    start = home_of(rule, key, size)
    return place - start if start <= place else place + size - start


def goes_ahead(rule, size, one, other, place):
    ways = (way(rule, one, place, size), way(rule, other, place, size))
    return ways[0] > ways[1] or (ways[0] == ways[1] and one < other)


def is_lay(rule, size, keys, lay):
    if type(lay) is not list or len(lay) != size:
        return False
    if sorted([key for key in lay if key is not None]) != sorted(keys):
        return False
    for own, key in enumerate(lay):
        if key is not None:
            place = home_of(rule, key, size)
            while place != own:
                if lay[place] is None or not goes_ahead(rule, size, lay[place], key, place):
                    return False
                place = 0 if place == size - 1 else place + 1
    return True


def all_lists(size, keys):
    """Every list of this length with each of the keys once and None else."""
    for places in itertools.permutations(range(size), len(keys)):
        made = [None] * size
        for key, place in zip(keys, places):
            made[place] = key
        yield made


def sum_of_ways(rule, places):
    return sum([way(rule, key, place, len(places)) for place, key in enumerate(places) if key is not None])
