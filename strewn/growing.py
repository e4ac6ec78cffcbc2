"""Growing tables: one row, and while it grows a greater one beside it, to which each deed moves a few keys."""

from strewn.errors import Full
from strewn.homes import check_count, check_key, check_rule, check_size
from strewn.rows import keys_in, settle, stands_in, take_out

LEAST_STEP = 1
MOST_STEP = 4
MOST_GROWN = 1024


def is_crowded_by_one_more(places):
    return 4 * (len(keys_in(places)) + 1) > 3 * len(places)


class Growing:
    def __init__(self, rule, size, step):
        check_rule(rule)
        check_size(size)
        check_count(step, LEAST_STEP, MOST_STEP)
        self.rule = rule
        self.moves_each = step
        self.moves_so_far = 0
        # None as long as there is one row alone, which is the newer one.
        self.older = None
        self.newer = [None] * size

    def put(self, key):
        check_key(key)
        missing = self.row_with(key) is None
        if missing:
            self.make_room()
            settle(self.rule, self.newer, key)
        self.move_keys()
        return missing

    def drop(self, key):
        check_key(key)
        places = self.row_with(key)
        if places is not None:
            take_out(self.rule, places, key)
        self.move_keys()
        return places is not None

    def has(self, key):
        check_key(key)
        there = self.row_with(key) is not None
        self.move_keys()
        return there

    def all_told(self):
        told = keys_in(self.newer)
        if self.older is not None:
            told.extend(keys_in(self.older))
        return sorted(told)

    def lays(self):
        if self.older is None:
            return (None, list(self.newer))
        return (list(self.older), list(self.newer))

    def moved(self):
        return self.moves_so_far

    def row_with(self, key):
        for places in (self.newer, self.older):
            if places is not None and stands_in(self.rule, places, key):
                return places
        return None

    def make_room(self):
        # A growth is over before the newer row is crowded: each put that fills it by a key moves one, too.
        if self.older is not None or not is_crowded_by_one_more(self.newer):
            return
        size = 2 * len(self.newer)
        if size > MOST_GROWN:
            raise Full("no room: the table would come above 1024 places")
        self.older = self.newer
        self.newer = [None] * size

    def move_keys(self):
        if self.older is None:
            return
        keys = keys_in(self.older)
        for key in keys[:self.moves_each]:
            take_out(self.rule, self.older, key)
            settle(self.rule, self.newer, key)
            self.moves_so_far = self.moves_so_far + 1
        if len(keys) <= self.moves_each:
            self.older = None
