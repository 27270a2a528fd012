"""Plans: how many rooms there are, how they go on, and where each key is at home."""

from homeward.errors import Wrong

MOST_NUMBER = 1000000000000000000
MOST_ROOMS = 64
MOST_HOMES = 64
MOST_KEYS = 100


# Python counts truths as ints; here they are no whole numbers.
def is_whole(thing):
    return isinstance(thing, int) and not isinstance(thing, bool)


def is_whole_within(thing, least, most):
    return is_whole(thing) and least <= thing <= most


def is_number(thing):
    return is_whole_within(thing, 0, MOST_NUMBER)


# Asked of numbers alone: other things can't always be put into a set.
def are_parted(numbers):
    return len(set(numbers)) == len(numbers)


def is_key_list(thing):
    if not isinstance(thing, list) or len(thing) > MOST_KEYS:
        return False
    return all([is_number(key) for key in thing]) and are_parted(thing)


def is_number_pair(thing):
    return isinstance(thing, tuple) and len(thing) == 2 and is_number(thing[0]) and is_number(thing[1])


def is_home_list(thing):
    if not isinstance(thing, list) or len(thing) > MOST_HOMES:
        return False
    return all([is_number_pair(pair) for pair in thing]) and are_parted([pair[0] for pair in thing])


class Plan:
    def __init__(self, rooms, wraps, homes):
        if not is_whole_within(rooms, 1, MOST_ROOMS):
            raise Wrong(0)
        if not isinstance(wraps, bool):
            raise Wrong(1)
        if not is_home_list(homes):
            raise Wrong(2)
        self.rooms = rooms
        self.wraps = wraps
        self.homes = list(homes)
        # Kept beside the field homes, which anyone can get hold of: no key moves house by what is done to that list.
        self.home_numbers = dict(homes)

    def homes_told(self):
        return list(self.home_numbers.items())

    def is_room(self, thing):
        return is_whole_within(thing, 0, self.rooms - 1)

    # On a line none is asked for behind the last room, so only a ring goes round here.
    def rooms_on(self, first, many):
        return [(first + step) % self.rooms for step in range(many)]

    def home(self, key):
        if not is_number(key):
            raise Wrong(0)
        return self.home_numbers.get(key, key) % self.rooms

    def far(self, key, room):
        if not is_number(key):
            raise Wrong(0)
        if not self.is_room(room):
            raise Wrong(1)
        steps = room - self.home(key)
        if self.wraps:
            return steps % self.rooms
        return steps if steps >= 0 else None

    def goes_ahead(self, room, one, other):
        if not self.is_room(room):
            raise Wrong(0)
        if not is_number(one):
            raise Wrong(1)
        if not is_number(other):
            raise Wrong(2)
        one_far = self.far(one, room)
        other_far = self.far(other, room)
        if one_far is None:
            return False
        if other_far is None:
            return True
        return one_far > other_far or (one_far == other_far and one < other)
