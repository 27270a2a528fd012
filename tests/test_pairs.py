"""Points 3, 4, 6 and 39 to 42: two rows held against one another, what parts them, the deeds between them."""

import unittest
from itertools import permutations

from homeward.errors import Unlike
from homeward.pairs import common_row, deeds_between, joined_row, only_in, parts_at
from homeward.plans import Plan
from homeward.rows import Row

from tests.helpers import (
    MOST, crowd_rooms, is_kept, large_rows, only_kept, row_of, small_housings, told, walked_ahead,
)

RING = Plan(5, True, [])
LINE = Plan(5, False, [])
CALLS = (parts_at, only_in, common_row, joined_row, deeds_between)


def state_of(row):
    return (row.plan, row.rooms_held(), row.deeds())


def pairs_of_small_rows():
    """Each two rows of the same small plan: rows with up to three keys, against all of them."""
    by_plan = {}
    for plan, keys, housing in small_housings():
        by_plan.setdefault(plan, []).append(Row(plan, housing))
    return [
        (one, other) for rows in by_plan.values()
        for one in rows for other in rows[::3] if one.many() <= 3 or other.many() <= 3
    ]


def thinned(row, step):
    """A copy without each key whose place is a multiple of step."""
    other = row.copied()
    for key in row.keys_held()[::step]:
        other.take(key)
    return other


def pairs_of_large_rows():
    """Large rows of the same plan: each with some of its own keys alone, and with keys of both beside others."""
    pairs = []
    for row in large_rows():
        pairs += [(row, thinned(row, 4)), (thinned(row, 2), thinned(row, 3))]
    return pairs


def all_pairs():
    return pairs_of_small_rows() + pairs_of_large_rows()


def keys_alone(one, other):
    return [key for key in one.rooms_held() if key is not None and key not in other.rooms_held()]


class AllUnlike(unittest.TestCase):
    def refused_unlike(self, one, other):
        for first, second in ((one, other), (other, one)):
            before = (state_of(first), state_of(second))
            for call in CALLS:
                with self.assertRaises(Unlike) as caught:
                    call(first, second)
                self.assertIs(type(caught.exception), Unlike)
            self.assertEqual((state_of(first), state_of(second)), before)

    def all_answer(self, one, other):
        for call in (parts_at, only_in, common_row, deeds_between):
            for first, second in ((one, other), (other, one)):
                self.assertEqual(told(call, first, second)[0], "told")

    def test_another_number_of_rooms(self):
        for wraps in (True, False):
            for rooms in (1, 2, 4, 6, 64):
                self.refused_unlike(Row(Plan(5, wraps, [])), Row(Plan(rooms, wraps, [])))
                self.refused_unlike(row_of(Plan(5, wraps, []), [0]), row_of(Plan(rooms, wraps, []), [0]))

    def test_another_wrapping(self):
        for rooms in (1, 5, 64):
            self.refused_unlike(Row(Plan(rooms, True, [])), Row(Plan(rooms, False, [])))
            self.refused_unlike(row_of(Plan(rooms, True, []), [0]), row_of(Plan(rooms, False, []), [0]))

    def test_another_home_of_a_key_that_one_of_them_has(self):
        for wraps in (True, False):
            plan, moved = Plan(5, wraps, []), Plan(5, wraps, [(3, 1)])
            self.refused_unlike(row_of(plan, [3]), Row(moved))
            self.refused_unlike(Row(plan), row_of(moved, [3]))
            self.refused_unlike(row_of(plan, [3]), row_of(moved, [3]))
            self.refused_unlike(row_of(plan, [0, 3, 1]), row_of(moved, [0, 1]))
            self.refused_unlike(row_of(plan, [0, 1]), row_of(moved, [0, 1, 2, 3]))

    def test_another_home_of_the_last_key_alone(self):
        for wraps in (True, False):
            plan, moved = Plan(5, wraps, [(9, 1)]), Plan(5, wraps, [(9, 0)])
            self.refused_unlike(row_of(plan, [0, 2, 9]), row_of(moved, [0, 2]))
            self.refused_unlike(row_of(plan, [0, 2]), row_of(moved, [2, 9]))

    def test_another_home_of_a_key_that_neither_has(self):
        for wraps in (True, False):
            plan, moved = Plan(5, wraps, [(7, 3)]), Plan(5, wraps, [(3, 1), (9, 0)])
            self.all_answer(row_of(plan, [0, 1, 2]), row_of(moved, [0, 4, 2]))
            self.all_answer(Row(plan), Row(moved))
            self.assertEqual(parts_at(row_of(plan, [0, 1]), row_of(moved, [1, 0])), None)

    def test_other_numbers_that_come_to_the_same_home(self):
        for wraps in (True, False):
            plan, other = Plan(5, wraps, [(8, 1), (9, 9)]), Plan(5, wraps, [(8, 6)])
            self.all_answer(row_of(plan, [8, 9]), row_of(other, [8, 4]))
            self.assertIsNone(parts_at(row_of(plan, [8, 9]), row_of(other, [9, 8])))

    def test_plans_made_twice(self):
        for wraps in (True, False):
            one, other = row_of(Plan(5, wraps, [(1, 2)]), [1, 3]), row_of(Plan(5, wraps, [(1, 2)]), [3, 1])
            self.all_answer(one, other)
            self.assertIsNone(parts_at(one, other))

    def test_ahead_of_no_room(self):
        one, other = row_of(Plan(2, True, []), [0, 1]), row_of(Plan(2, True, [(3, 0)]), [2, 3])
        self.refused_unlike(one, other)
        one, other = row_of(Plan(2, False, []), [0, 1]), row_of(Plan(2, False, [(4, 1)]), [2, 4])
        self.refused_unlike(one, other)
        self.refused_unlike(row_of(Plan(64, True, []), range(64)), row_of(Plan(64, True, [(70, 7)]), range(64, 128)))


class PartingRooms(unittest.TestCase):
    def test_some(self):
        one, other = row_of(RING, [3, 8, 4, 13]), row_of(RING, [3, 4])
        self.assertEqual(parts_at(one, other), (0, 13, None))
        self.assertEqual(parts_at(other, one), (0, None, 13))
        self.assertEqual(parts_at(row_of(LINE, [0, 1, 3]), row_of(LINE, [0, 1, 4])), (3, 3, None))
        self.assertEqual(parts_at(row_of(LINE, [0, 1, 4]), row_of(LINE, [0, 1, 9])), (4, 4, 9))
        self.assertEqual(parts_at(row_of(LINE, [0, 1]), row_of(LINE, [5, 1])), (0, 0, 5))

    def test_the_key_0_is_no_empty_room(self):
        self.assertEqual(parts_at(row_of(RING, [0]), Row(RING)), (0, 0, None))
        self.assertEqual(parts_at(Row(RING), row_of(RING, [0])), (0, None, 0))

    def test_alike_by_other_orders_of_deeds(self):
        for plan in (RING, LINE):
            rows = [row_of(plan, keys) for keys in permutations([0, 5, 1, 3])]
            more = row_of(plan, [2, 0, 3, 1])
            more.take(2)
            more.put(5)
            for row in rows + [more]:
                self.assertIsNone(parts_at(rows[0], row))
                self.assertIsNone(parts_at(row, rows[0]))

    def test_a_row_with_itself(self):
        for row in (Row(RING), row_of(RING, [3, 8, 4, 13]), row_of(LINE, [0, 5, 1])):
            self.assertIsNone(parts_at(row, row))
            self.assertIsNone(parts_at(row, row.copied()))

    def test_the_first_of_all_rooms(self):
        for one, other in all_pairs():
            parted = [
                (room, held, there)
                for room, (held, there) in enumerate(zip(one.rooms_held(), other.rooms_held())) if held != there
            ]
            self.assertEqual(parts_at(one, other), parted[0] if parted else None)
            self.assertEqual(parted == [], sorted(one.keys_held()) == sorted(other.keys_held()))

    def test_on_a_line_it_tells_a_key_that_the_other_row_does_not_have(self):
        for one, other in all_pairs():
            parting = parts_at(one, other)
            if one.plan.wraps or parting is None:
                continue
            room, held, there = parting
            plan = one.plan
            if there is None or (held is not None and walked_ahead(
                    plan.rooms, plan.wraps, plan.homes, room, held, there)):
                self.assertIsNone(other.room_of(held))
            else:
                self.assertIsNone(one.room_of(there))

    def test_kinds(self):
        self.assertIs(type(parts_at(row_of(RING, [1]), Row(RING))), tuple)


class KeysAlone(unittest.TestCase):
    def test_some(self):
        one, other = row_of(RING, [3, 8, 4, 13]), row_of(RING, [4, 0])
        self.assertEqual(only_in(one, other), [13, 3, 8])
        self.assertEqual(only_in(other, one), [0])
        self.assertEqual(only_in(one, Row(RING)), [13, 4, 3, 8])
        self.assertEqual(only_in(Row(RING), one), [])
        self.assertEqual(only_in(one, one), [])

    def test_of_all_pairs(self):
        for one, other in all_pairs():
            self.assertEqual(only_in(one, other), keys_alone(one, other))

    def test_a_new_list_each_time(self):
        one = row_of(RING, [3, 8])
        keys = only_in(one, Row(RING))
        keys.clear()
        self.assertEqual(only_in(one, Row(RING)), [3, 8])
        self.assertEqual(one.rooms_held(), [None, None, None, 3, 8])


class CommonAndJoined(unittest.TestCase):
    def new_row_of(self, row, one, keys):
        """It is the kept housing of the keys, has the one's very plan, and no deeds."""
        self.assertIs(type(row), Row)
        self.assertIs(row.plan, one.plan)
        self.assertEqual((row.deeds(), row.undo()), ([], False))
        self.assertEqual(sorted(row.keys_held()), sorted(keys))
        self.assertTrue(is_kept(one.plan.rooms, one.plan.wraps, one.plan.homes, row.rooms_held()))

    def test_some(self):
        one, other = row_of(RING, [3, 8, 4, 13]), row_of(RING, [13, 4, 0])
        self.assertEqual(common_row(one, other).rooms_held(), [None, None, None, 13, 4])
        self.assertEqual(joined_row(one, other).rooms_held(), [13, 4, 0, 3, 8])
        self.new_row_of(common_row(one, other), one, [13, 4])
        self.new_row_of(joined_row(one, other), one, [3, 8, 4, 13, 0])
        self.new_row_of(common_row(other, one), other, [13, 4])
        self.new_row_of(joined_row(other, one), other, [3, 8, 4, 13, 0])

    def test_the_one_s_very_plan_of_two(self):
        one, other = row_of(Plan(5, True, [(9, 1)]), [3]), row_of(Plan(5, True, []), [3, 4])
        for call, keys in ((common_row, [3]), (joined_row, [3, 4])):
            self.new_row_of(call(one, other), one, keys)
            self.new_row_of(call(other, one), other, keys)

    def test_with_an_empty_row_and_with_itself(self):
        for plan in (RING, LINE):
            one = row_of(plan, [0, 5, 1])
            self.new_row_of(common_row(one, Row(plan)), one, [])
            self.new_row_of(joined_row(one, Row(plan)), one, [0, 5, 1])
            self.new_row_of(joined_row(Row(plan), one), one, [0, 5, 1])
            for call in (common_row, joined_row):
                self.new_row_of(call(one, one), one, [0, 5, 1])
                self.assertIsNot(call(one, one), one)

    def test_they_go_on_by_themselves(self):
        one, other = row_of(RING, [3, 8]), row_of(RING, [3, 4])
        for call in (common_row, joined_row):
            row = call(one, other)
            row.take(3)
            row.put(2)
        self.assertEqual((one.rooms_held(), one.deeds()), ([None, None, None, 3, 8], [("put", 3), ("put", 8)]))
        self.assertEqual((other.rooms_held(), other.deeds()), ([None, None, None, 3, 4], [("put", 3), ("put", 4)]))

    def test_of_all_pairs(self):
        for one, other in all_pairs():
            common = [key for key in one.keys_held() if key in other.keys_held()]
            self.new_row_of(common_row(one, other), one, common)
            self.joined(one, other, one.keys_held() + keys_alone(other, one))

    def joined(self, one, other, keys):
        crowds = crowd_rooms(one.plan, keys)
        answer = told(joined_row, one, other)
        if crowds:
            self.assertEqual(answer[0], "NoRoom")
            self.assertIn(answer[1]["room"], crowds)
        else:
            self.assertEqual(answer[0], "told")
            self.new_row_of(answer[1], one, keys)

    def test_against_all_housings(self):
        for one, other in pairs_of_small_rows()[::5]:
            keys = one.keys_held() + keys_alone(other, one)
            kept = only_kept(one.plan, keys)
            answer = told(joined_row, one, other)
            if kept is None:
                self.assertEqual(answer[0], "NoRoom")
            else:
                self.assertEqual(answer[1].rooms_held(), kept)
            common = [key for key in keys if key in one.keys_held() and key in other.keys_held()]
            self.assertEqual(common_row(one, other).rooms_held(), only_kept(one.plan, common))

    def test_no_room(self):
        one, other = row_of(RING, [0, 1, 2]), row_of(RING, [3, 4, 5])
        self.assertEqual(told(joined_row, one, other), ("NoRoom", {"room": 0}))
        one, other = row_of(LINE, [4]), row_of(LINE, [9])
        self.assertEqual(told(joined_row, one, other), ("NoRoom", {"room": 4}))
        self.assertEqual(common_row(one, other).keys_held(), [])
        self.assertEqual((one.rooms_held(), one.deeds()), ([None] * 4 + [4], [("put", 4)]))

    def test_just_as_many_as_fit(self):
        self.assertEqual(joined_row(row_of(RING, [0, 1, 2]), row_of(RING, [3, 4])).rooms_held(), [0, 1, 2, 3, 4])
        line = Plan(64, False, [])
        self.assertEqual(joined_row(row_of(line, range(32)), row_of(line, range(32, 64))).many(), 64)

    def test_more_keys_than_a_list_of_keys_holds(self):
        for wraps in (True, False):
            plan = Plan(64, wraps, [])
            for many in (36, 37, 38, 64):
                one, other = row_of(plan, range(64)), row_of(plan, range(64, 64 + many))
                self.assertEqual(told(joined_row, one, other)[0], "NoRoom")
                self.assertEqual(told(joined_row, other, one)[0], "NoRoom")
                self.assertEqual(len(deeds_between(one, other)), 64 + many)
                self.assertEqual(common_row(one, other).many(), 0)


class Deeds(unittest.TestCase):
    def lead(self, one, other, deeds):
        """The deeds done one after another at a copy of the one lead to the other one's rooms."""
        row = one.copied()
        for word, key in deeds:
            (row.take if word == "take" else row.put)(key)
        self.assertEqual(row.rooms_held(), other.rooms_held())
        self.assertEqual(row.deeds(), one.deeds() + deeds)

    def test_some(self):
        one, other = row_of(RING, [3, 8, 4, 13]), row_of(RING, [4, 0, 9])
        self.assertEqual(other.rooms_held(), [9, 0, None, None, 4])
        self.assertEqual(
            deeds_between(one, other), [("take", 13), ("take", 3), ("take", 8), ("put", 9), ("put", 0)])
        self.assertEqual(
            deeds_between(other, one), [("take", 9), ("take", 0), ("put", 13), ("put", 3), ("put", 8)])

    def test_none_where_they_are_alike(self):
        one = row_of(RING, [3, 8])
        for other in (one, one.copied(), row_of(Plan(5, True, []), [8, 3])):
            self.assertEqual(deeds_between(one, other), [])
        self.assertEqual(deeds_between(Row(LINE), Row(LINE)), [])

    def test_from_and_to_an_empty_row(self):
        one = row_of(RING, [3, 8, 4])
        self.assertEqual(deeds_between(one, Row(RING)), [("take", 4), ("take", 3), ("take", 8)])
        self.assertEqual(deeds_between(Row(RING), one), [("put", 4), ("put", 3), ("put", 8)])

    def test_between_full_rows(self):
        for wraps in (True, False):
            plan = Plan(64, wraps, [])
            one, other = row_of(plan, range(64)), row_of(plan, range(MOST - 64, MOST))
            self.lead(one, other, deeds_between(one, other))
            self.lead(other, one, deeds_between(other, one))

    def test_they_lead_there_and_back(self):
        for one, other in all_pairs():
            deeds = deeds_between(one, other)
            self.assertEqual(deeds, [("take", key) for key in keys_alone(one, other)]
                             + [("put", key) for key in keys_alone(other, one)])
            self.lead(one, other, deeds)
            self.lead(other, one, deeds_between(other, one))

    def test_where_the_plans_tell_other_homes_of_others(self):
        one, other = row_of(Plan(5, True, [(9, 1)]), [3, 8, 4]), row_of(Plan(5, True, [(7, 0)]), [0, 4, 13])
        self.lead(one, other, deeds_between(one, other))
        self.lead(other, one, deeds_between(other, one))

    def test_kinds_and_own_lists(self):
        one, other = row_of(RING, [3]), row_of(RING, [4])
        deeds = deeds_between(one, other)
        self.assertEqual([type(deeds), type(deeds[0])], [list, tuple])
        deeds.clear()
        self.assertEqual(deeds_between(one, other), [("take", 3), ("put", 4)])

    def test_what_asks_changes_nothing(self):
        one, other = row_of(RING, [3, 8]), row_of(RING, [4, 9, 0])
        before = (state_of(one), state_of(other))
        for call in CALLS:
            call(one, other)
            call(other, one)
            self.assertEqual((state_of(one), state_of(other)), before)


if __name__ == "__main__":
    unittest.main()
