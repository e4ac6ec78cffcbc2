"""Rows: keys in a ring of places, laid so that the lay hangs on the keys alone."""

from strewn.errors import Full
from strewn.homes import check_key, check_rule, check_size, reckon_home
from strewn.rings import next_place, way_on


def way_of(rule, key, place, size):
    return way_on(reckon_home(rule, key, size), place, size)


def goes_ahead(rule, one, other, place, size):
    one_way = way_of(rule, one, place, size)
    other_way = way_of(rule, other, place, size)
    return one_way > other_way or (one_way == other_way and one < other)


def last_look(rule, places, key):
    # No key goes ahead of itself, so this ends at the key, too; and it ends, since one place is always empty.
    size = len(places)
    place = reckon_home(rule, key, size)
    while places[place] is not None and goes_ahead(rule, places[place], key, place, size):
        place = next_place(place, size)
    return place


def stands_in(rule, places, key):
    return places[last_look(rule, places, key)] == key


def keys_in(places):
    return sorted([key for key in places if key is not None])


def is_full(places):
    return places.count(None) <= 1


def settle(rule, places, key):
    # Of two keys side by side in a lay the first goes ahead of the second at the second's place, too:
    # so from where the new key comes to stand, each one gives its place to the one ahead of it.
    place = last_look(rule, places, key)
    carried = key
    while carried is not None:
        pushed = places[place]
        places[place] = carried
        carried = pushed
        place = next_place(place, len(places))


def take_out(rule, places, key):
    # The keys behind come one place back, up to one that is at home: none behind that one may go past it.
    size = len(places)
    gap = last_look(rule, places, key)
    behind = next_place(gap, size)
    while places[behind] is not None and way_of(rule, places[behind], behind, size) > 0:
        places[gap] = places[behind]
        gap = behind
        behind = next_place(gap, size)
    places[gap] = None


class Row:
    def __init__(self, rule, size):
        check_rule(rule)
        check_size(size)
        self.rule = rule
        self.places = [None] * size

    def put(self, key):
        check_key(key)
        if stands_in(self.rule, self.places, key):
            return False
        if is_full(self.places):
            raise Full("no room: one place of a row stays empty")
        settle(self.rule, self.places, key)
        return True

    def drop(self, key):
        check_key(key)
        if not stands_in(self.rule, self.places, key):
            return False
        take_out(self.rule, self.places, key)
        return True

    def has(self, key):
        check_key(key)
        return stands_in(self.rule, self.places, key)

    def looks(self, key):
        check_key(key)
        place = last_look(self.rule, self.places, key)
        return way_of(self.rule, key, place, len(self.places)) + 1

    def all_told(self):
        return keys_in(self.places)

    def lay(self):
        return list(self.places)
