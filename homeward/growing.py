"""Growing: rows of another number of rooms, and a row that grows and shrinks by itself."""

from homeward.errors import There, Wrong
from homeward.plans import MOST_ROOMS, Plan, is_home_list, is_whole_within
from homeward.rows import Row, row_of_keys

LEAST_ROOMS = 4


def row_sized(row, rooms):
    if not isinstance(row, Row):
        raise Wrong(0)
    if not is_whole_within(rooms, 1, MOST_ROOMS):
        raise Wrong(1)
    return row_of_keys(Plan(rooms, row.plan.wraps, row.plan.homes_told()), row.keys_held())


class Growing:
    def __init__(self, homes):
        if not is_home_list(homes):
            raise Wrong(0)
        self.row = Row(Plan(LEAST_ROOMS, True, homes))
        self.housed_anew = 0

    def house_anew(self, rooms):
        self.row = row_sized(self.row, rooms)
        self.housed_anew = self.housed_anew + self.row.many()
        return self.row.many()

    def put(self, key):
        if self.row.room_of(key) is not None:
            raise There(key)
        rooms = self.rooms_now()
        moved = 0
        if (self.row.many() + 1) * 4 > rooms * 3 and rooms < MOST_ROOMS:
            moved = self.house_anew(rooms * 2)
        # Refused with NoRoom only where 64 keys are there: then there are 64 rooms, and it hasn't grown.
        self.row.put(key)
        return moved

    def take(self, key):
        self.row.take(key)
        rooms = self.rooms_now()
        if self.row.many() * 8 < rooms and rooms > LEAST_ROOMS:
            return self.house_anew(rooms // 2)
        return 0

    def rooms_now(self):
        return self.row.plan.rooms

    # Not the row that is kept: what is done to the one told changes nothing here.
    def row_now(self):
        return row_sized(self.row, self.rooms_now())

    def anew(self):
        return self.housed_anew
