"""Pairs: two rows held against one another."""

from homeward.errors import Unlike
from homeward.rows import row_of_keys


# A home is a room here: two plans may tell other numbers for a key that come to the same one.
def are_alike_at_home(one, other, keys):
    return all([one.plan.home(key) == other.plan.home(key) for key in keys])


def refuse_unlike(one, other):
    if one.plan.rooms != other.plan.rooms or one.plan.wraps != other.plan.wraps:
        raise Unlike()
    if not are_alike_at_home(one, other, one.keys_held() + other.keys_held()):
        raise Unlike()


def parts_at(one, other):
    refuse_unlike(one, other)
    for room, pair in enumerate(zip(one.rooms_held(), other.rooms_held())):
        if pair[0] != pair[1]:
            return (room, pair[0], pair[1])
    return None


def only_in(one, other):
    refuse_unlike(one, other)
    return [key for key in one.keys_held() if other.room_of(key) is None]


def common_row(one, other):
    refuse_unlike(one, other)
    return row_of_keys(one.plan, [key for key in one.keys_held() if other.room_of(key) is not None])


def joined_row(one, other):
    return row_of_keys(one.plan, one.keys_held() + only_in(other, one))


# All takings out come first: so at each put the keys that are there belong to the other row, where they fit.
def deeds_between(one, other):
    takes = [("take", key) for key in only_in(one, other)]
    return takes + [("put", key) for key in only_in(other, one)]
