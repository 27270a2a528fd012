"""Points 3, 4, 6 and 31 to 33: rows of another number of rooms, and the growing row."""

import unittest

from homeward.errors import NoRoom, NotThere, There
from homeward.growing import Growing, row_sized
from homeward.housed import housed_rooms
from homeward.looks import look_for
from homeward.plans import Plan
from homeward.rows import Row
from homeward.spread import window_of

from tests.helpers import (
    MOST, NO_NUMBERS, NO_ROWS, Stranger, is_crowd_there, is_kept, large_rows, numbers_from, only_kept, refused_wrong,
    ring_in_itself, small_housings, told,
)

HOMES = [(7, 2), (0, 9), (30, 30), (3, MOST), (MOST, 1)]
# Behind so many puts: how many rooms there are, and how many keys the last put has housed anew.
GROWN = [(1, 4, 0), (2, 4, 0), (3, 4, 0), (4, 8, 3), (5, 8, 0), (6, 8, 0), (7, 16, 6), (8, 16, 0), (12, 16, 0),
         (13, 32, 12), (14, 32, 0), (24, 32, 0), (25, 64, 24), (26, 64, 0), (48, 64, 0), (49, 64, 0), (64, 64, 0)]
# Where so many are left of 64: how many rooms there are, and how many keys the last taking out has housed anew.
SHRUNK = [(63, 64, 0), (48, 64, 0), (24, 64, 0), (9, 64, 0), (8, 64, 0), (7, 32, 7), (6, 32, 0), (4, 32, 0),
          (3, 16, 3), (2, 16, 0), (1, 8, 1), (0, 4, 0)]


def state_of(growing):
    row = growing.row_now()
    return (growing.rooms_now(), growing.anew(), row.rooms_held(), row.plan.rooms, row.plan.homes)


def grown(homes, keys):
    growing = Growing(homes)
    for key in keys:
        growing.put(key)
    return growing


class Model:
    """Points 31 to 33 said a second time, over a list of keys and a number."""

    def __init__(self):
        self.keys, self.rooms, self.anew, self.puts, self.takes = [], 4, 0, 0, 0

    def put(self, key):
        housed = 0
        if len(self.keys) + 1 > self.rooms * 0.75 and self.rooms < 64:
            self.rooms, housed = 2 * self.rooms, len(self.keys)
        self.keys.append(key)
        self.anew, self.puts = self.anew + housed, self.puts + 1
        return housed

    def take(self, key):
        housed = 0
        self.keys.remove(key)
        if len(self.keys) < self.rooms * 0.125 and self.rooms > 4:
            self.rooms, housed = self.rooms // 2, len(self.keys)
        self.anew, self.takes = self.anew + housed, self.takes + 1
        return housed


class Sized(unittest.TestCase):
    def test_the_example_in_other_numbers_of_rooms(self):
        row = Row(Plan(5, True, []), [13, 4, None, 3, 8])
        self.assertEqual(row_sized(row, 4).rooms_held(), [4, 8, 13, 3])
        self.assertEqual(row_sized(row, 5).rooms_held(), [13, 4, None, 3, 8])
        self.assertEqual(row_sized(row, 7).rooms_held(), [None, 8, None, 3, 4, None, 13])
        self.assertEqual(told(row_sized, row, 3), ("NoRoom", {"room": 0}))

    def test_to_each_number_of_rooms(self):
        for wraps in (True, False):
            for keys in ([], [3], [0, 4, 8, 12], [3, 7, 30, 0, MOST, 64, 63, 100], list(range(20, 84))):
                row = Row(Plan(64, wraps, HOMES), housed_rooms(Plan(64, wraps, HOMES), keys))
                for rooms in range(1, 65):
                    self.sized_as_built_anew(row, rooms)

    def sized_as_built_anew(self, row, rooms):
        plan = Plan(rooms, row.plan.wraps, row.plan.homes)
        answer, anew = told(row_sized, row, rooms), told(housed_rooms, plan, row.keys_held())
        self.assertEqual(answer[0], anew[0])
        if answer[0] == "told":
            sized = answer[1]
            self.assertIs(type(sized), Row)
            self.assertEqual((sized.rooms_held(), sized.deeds()), (anew[1], []))
            self.assertEqual((sized.plan.rooms, sized.plan.wraps, sized.plan.homes),
                             (rooms, row.plan.wraps, row.plan.homes))
            self.assertTrue(is_kept(rooms, row.plan.wraps, row.plan.homes, sized.rooms_held()))
            self.assertEqual(sorted(sized.keys_held()), sorted(row.keys_held()))
        else:
            self.assertEqual(answer[0], "NoRoom")
            self.assertTrue(
                is_crowd_there(rooms, row.plan.wraps, row.plan.homes, row.keys_held(), answer[1]["room"]))

    def test_small_ones_against_all_housings(self):
        for plan, keys, housing in small_housings():
            for rooms in (1, 2, 3, 4):
                kept = only_kept(Plan(rooms, plan.wraps, plan.homes), keys)
                answer = told(row_sized, Row(plan, housing), rooms)
                if kept is None:
                    self.assertEqual(answer[0], "NoRoom")
                else:
                    self.assertEqual(answer[1].rooms_held(), kept)

    def test_large_ones(self):
        for row in large_rows():
            for rooms in (1, 9, 31, 64):
                self.sized_as_built_anew(row, rooms)

    def test_no_room_on_a_line_though_rooms_are_left(self):
        row = Row(Plan(4, False, []), [None, 5, None, 3])
        with self.assertRaises(NoRoom) as caught:
            row_sized(row, 2)
        self.assertIs(type(caught.exception), NoRoom)
        self.assertEqual(caught.exception.room, 1)

    def test_without_deeds_and_apart_from_its_row(self):
        row = Row(Plan(5, True, HOMES))
        row.put(3)
        row.put(8)
        sized = row_sized(row, 5)
        self.assertEqual(sized.deeds(), [])
        self.assertIs(sized.undo(), False)
        sized.put(4)
        row.take(3)
        self.assertEqual(sorted(sized.keys_held()), [3, 4, 8])
        self.assertEqual((row.keys_held(), row.deeds()), ([8], [("put", 3), ("put", 8), ("take", 3)]))
        sized.plan.homes.clear()
        self.assertEqual(row.plan.homes, HOMES)

    def test_the_same_homes_whatever_was_done_to_the_list_told(self):
        plan = Plan(5, True, HOMES)
        row = Row(plan)
        row.put(7)
        plan.homes.clear()
        self.assertEqual(row_sized(row, 8).plan.homes, HOMES)
        self.assertEqual(row_sized(row, 8).room_of(7), 2)

    def test_a_refusal_changes_nothing(self):
        row = Row(Plan(5, True, []))
        row.put(3)
        row.put(8)
        for rooms in (1, 0, 65, True):
            self.assertNotEqual(told(row_sized, row, rooms)[0], "told")
        self.assertEqual((row.rooms_held(), row.deeds()), ([None, None, None, 3, 8], [("put", 3), ("put", 8)]))

    def test_wrong(self):
        row = Row(Plan(5, True, []), [0, 1, 2, 3, 4])
        for thing in NO_ROWS + [Growing([])]:
            refused_wrong(self, 0, row_sized, thing, 5)
            refused_wrong(self, 0, row_sized, thing, 0)
        for rooms in NO_NUMBERS + [0, 65, 66, MOST]:
            refused_wrong(self, 1, row_sized, row, rooms)
            refused_wrong(self, 1, row_sized, Row(Plan(1, False, [])), rooms)


class Making(unittest.TestCase):
    def test_at_first(self):
        for homes in ([], HOMES, [(key, key + 1) for key in range(64)]):
            growing = Growing(homes)
            self.assertEqual(state_of(growing), (4, 0, [None] * 4, 4, homes))
            self.assertIs(growing.row_now().plan.wraps, True)
            self.assertEqual(growing.row_now().deeds(), [])

    def test_it_is_no_row(self):
        self.assertNotIsInstance(Growing([]), Row)
        growing = grown([], [3])
        refused_wrong(self, 0, look_for, growing, 3)
        refused_wrong(self, 0, window_of, growing, 3)

    def test_wrong(self):
        for homes in (None, True, 0, 4, "", (), ((1, 2),), {}, {1: 2}, {(1, 2)}, object(), Stranger(), list,
                      ring_in_itself(), [1], [(1,)], [(1, 2, 3)], [[1, 2]], [(1, 2), (1, 3)], [(1, 2), (2, 1), (1, 2)],
                      [(key, 0) for key in range(65)], [Stranger()], Row(Plan(4, True, [])), Plan(4, True, [])):
            refused_wrong(self, 0, Growing, homes)
        for thing in NO_NUMBERS:
            refused_wrong(self, 0, Growing, [(thing, 1)])
            refused_wrong(self, 0, Growing, [(1, thing)])

    def test_what_is_done_to_the_list_handed_in_changes_nothing(self):
        homes = [(8, 1), (3, 0)]
        growing = Growing(homes)
        homes.clear()
        homes.append((4, 3))
        for key in (8, 3, 4, 12):
            growing.put(key)
        self.assertEqual(growing.row_now().plan.homes, [(8, 1), (3, 0)])
        self.assertEqual(growing.row_now().rooms_held(), [3, 8, None, None, 4, 12, None, None])
        self.assertEqual(homes, [(4, 3)])


class Growth(unittest.TestCase):
    def test_at_each_bound(self):
        for homes in ([], HOMES):
            growing, due = Growing(homes), {many: (rooms, anew) for many, rooms, anew in GROWN}
            for many in range(1, 65):
                anew = growing.put(5 * many)
                self.assertIs(type(anew), int)
                if many in due:
                    self.assertEqual((growing.rooms_now(), anew), due[many])
                else:
                    self.assertEqual(anew, 0)
            self.assertEqual(growing.anew(), 45)

    def test_64_keys_and_one_more(self):
        growing = grown(HOMES, range(64))
        before = state_of(growing)
        for key in (64, 99, MOST):
            with self.assertRaises(NoRoom) as caught:
                growing.put(key)
            self.assertIs(type(caught.exception), NoRoom)
            self.assertEqual(caught.exception.room, 0)
        self.assertEqual(state_of(growing), before)
        self.assertEqual(growing.take(63), 0)
        self.assertEqual(growing.put(64), 0)
        self.assertEqual(told(growing.put, 65), ("NoRoom", {"room": 0}))

    def test_there(self):
        growing = grown([], [0, 4, 8])
        before = state_of(growing)
        for key in (0, 4, 8):
            with self.assertRaises(There) as caught:
                growing.put(key)
            self.assertIs(type(caught.exception), There)
            self.assertEqual(caught.exception.key, key)
        self.assertEqual(state_of(growing), before)
        self.assertEqual(growing.rooms_now(), 4)

    def test_there_comes_ahead_of_no_room(self):
        growing = grown([], range(64))
        for key in (0, 63):
            self.assertEqual(told(growing.put, key), ("There", {"key": key}))

    def test_wrong(self):
        for growing in (Growing([]), grown([], [0, 4, 8]), grown(HOMES, range(64))):
            before = state_of(growing)
            for thing in NO_NUMBERS:
                refused_wrong(self, 0, growing.put, thing)
                refused_wrong(self, 0, growing.take, thing)
            self.assertEqual(state_of(growing), before)


class Shrinking(unittest.TestCase):
    def test_at_each_bound(self):
        for homes in ([], HOMES):
            growing, due = grown(homes, range(64)), {many: (rooms, anew) for many, rooms, anew in SHRUNK}
            so_far = growing.anew()
            for many in range(63, -1, -1):
                anew = growing.take((many * 5) % 64)
                self.assertIs(type(anew), int)
                if many in due:
                    self.assertEqual((growing.rooms_now(), anew), due[many])
                else:
                    self.assertEqual(anew, 0)
            self.assertEqual(growing.anew(), so_far + 11)

    def test_not_below_four_rooms(self):
        growing = grown([], [3])
        self.assertEqual((growing.take(3), growing.rooms_now()), (0, 4))
        growing.put(3)
        growing.put(7)
        self.assertEqual((growing.take(3), growing.take(7), growing.rooms_now()), (0, 0, 4))

    def test_not_there(self):
        growing = grown([], range(13))
        for key in range(12, 4, -1):
            growing.take(key)
        before = state_of(growing)
        for key in (12, 5, 99, MOST):
            with self.assertRaises(NotThere) as caught:
                growing.take(key)
            self.assertIs(type(caught.exception), NotThere)
            self.assertEqual(caught.exception.key, key)
        self.assertEqual(state_of(growing), before)
        self.assertEqual(told(Growing([]).take, 0), ("NotThere", {"key": 0}))

    def test_grown_again(self):
        growing = grown([], range(13))
        for key in range(12, 2, -1):
            growing.take(key)
        self.assertEqual(growing.rooms_now(), 16)
        for key in range(3, 13):
            growing.put(key)
        self.assertEqual((growing.rooms_now(), growing.anew()), (32, 3 + 6 + 12 + 3 + 12))


class AgainstRowsBuiltAnew(unittest.TestCase):
    def as_built_anew(self, growing, model, homes):
        self.assertEqual((growing.rooms_now(), growing.anew()), (model.rooms, model.anew))
        row = growing.row_now()
        self.assertEqual((row.plan.rooms, row.plan.wraps, row.plan.homes), (model.rooms, True, homes))
        self.assertEqual((sorted(row.keys_held()), row.deeds()), (sorted(model.keys), []))
        self.assertTrue(is_kept(model.rooms, True, homes, row.rooms_held()))
        self.assertEqual(row.rooms_held(), housed_rooms(Plan(model.rooms, True, homes), sorted(model.keys)))
        self.assertLessEqual(growing.anew(), 2 * model.puts + model.takes)

    def test_behind_each_deed(self):
        for seed, most in ((1, 6), (2, 20), (3, 90), (4, 140)):
            for homes in ([], HOMES):
                growing, model = Growing(homes), Model()
                # Taking out gets likelier towards the end, so that it shrinks, too.
                for step, key in enumerate(numbers_from(seed, 400, most)):
                    if key in model.keys:
                        self.assertEqual(growing.take(key), model.take(key))
                    elif len(model.keys) < 64 and step < 300:
                        self.assertEqual(growing.put(key), model.put(key))
                    self.as_built_anew(growing, model, homes)
                while model.keys:
                    key = model.keys[len(model.keys) // 2]
                    self.assertEqual(growing.take(key), model.take(key))
                    self.as_built_anew(growing, model, homes)
                self.assertEqual(growing.rooms_now(), 4)

    def test_to_and_fro_at_each_bound(self):
        for many in (3, 4, 6, 7, 12, 13, 24, 25, 64):
            growing, model = Growing(HOMES), Model()
            for turn in range(3):
                for key in range(many):
                    self.assertEqual(growing.put(3 * key), model.put(3 * key))
                    self.as_built_anew(growing, model, HOMES)
                for key in range(many):
                    self.assertEqual(growing.take(3 * key), model.take(3 * key))
                    self.as_built_anew(growing, model, HOMES)


class OwnRows(unittest.TestCase):
    def test_a_new_one_each_time(self):
        growing = grown(HOMES, [3, 8])
        one, other = growing.row_now(), growing.row_now()
        self.assertIs(type(one), Row)
        self.assertIsNot(one, other)
        one.put(4)
        one.plan.homes.clear()
        self.assertEqual(sorted(other.keys_held()), [3, 8])
        self.assertEqual(other.plan.homes, HOMES)
        self.assertEqual(growing.row_now().plan.homes, HOMES)
        self.assertEqual(sorted(growing.row_now().keys_held()), [3, 8])
        self.assertEqual(growing.row_now().deeds(), [])

    def test_a_row_told_stays_as_it_was(self):
        growing = grown([], [0, 4, 8])
        row = growing.row_now()
        growing.put(12)
        growing.take(0)
        self.assertEqual((row.plan.rooms, row.rooms_held()), (4, [0, 4, 8, None]))
        self.assertEqual(growing.row_now().rooms_held(), [8, None, None, None, 4, 12, None, None])

    def test_what_asks_changes_nothing(self):
        growing = grown(HOMES, [3, 8, 4, 13])
        before = state_of(growing)
        for turn in range(3):
            growing.row_now().take(3)
            growing.rooms_now()
            growing.anew()
        self.assertEqual(state_of(growing), before)

    def test_two_know_nothing_of_one_another(self):
        one, other = Growing(HOMES), Growing(HOMES)
        for key in range(5):
            one.put(key)
        self.assertEqual(state_of(other), (4, 0, [None] * 4, 4, HOMES))


if __name__ == "__main__":
    unittest.main()
