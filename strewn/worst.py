"""The worst keys: those below a limit whose ways by first come are the longest together."""

from strewn.chains import chains
from strewn.errors import TooMany
from strewn.homes import check_count, check_rule, check_size

MOST_LIMIT = 64
MOST_DEALINGS = 4000


def dealt_further(dealt, room, behind, many):
    # No fewer than leave what the homes behind have room for: so each dealing that is begun can be ended.
    left = many - sum(dealt)
    return [dealt + [given] for given in range(max(0, left - behind), min(room, left) + 1)]


def all_dealings(rooms, many):
    begun = [[]]
    behind = sum(rooms)
    for room in rooms:
        behind = behind - room
        longer = []
        for dealt in begun:
            longer.extend(dealt_further(dealt, room, behind, many))
        # Each one begun leads to at least one way of dealing, so it needn't be ended to tell that these are too many.
        if len(longer) > MOST_DEALINGS:
            raise TooMany("more than 4000 ways of dealing the keys to homes")
        begun = longer
    return begun


def ways_of_dealing(dealt):
    # From each place all keys but the one that stays go on to the next, and this adds one to the way of each.
    # The first round tells how many come over the ring's end: past an empty place, and there is one, none go on.
    passing = 0
    for given in dealt:
        passing = max(0, passing + given - 1)
    together = 0
    for given in dealt:
        passing = max(0, passing + given - 1)
        together = together + passing
    return together


def worst(rule, size, many, limit):
    check_rule(rule)
    check_size(size)
    check_count(many, 0, size - 1)
    check_count(limit, many, MOST_LIMIT)
    # Keys of one home make the same ways, so it is enough to try how many there are of each home.
    by_home = chains(rule, size, list(range(limit)))
    dealt = max(all_dealings([len(keys) for keys in by_home], many), key=ways_of_dealing)
    told = []
    for keys, given in zip(by_home, dealt):
        told.extend(keys[:given])
    return (sorted(told), ways_of_dealing(dealt))
