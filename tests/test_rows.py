"""Points 3, 4, 6 and 18 to 22: rows, puts and takings out, undoing, deeds, copies, lines."""

import unittest
from itertools import permutations

from homeward.errors import NoRoom, NotThere, There, Unkept
from homeward.faults import fault_of
from homeward.housed import housed_rooms
from homeward.plans import Plan
from homeward.rows import Row

from tests.helpers import (
    MOST, NO_NUMBERS, NO_PLANS, Stranger, is_crowd_there, is_kept, large_rows, numbers_from, only_kept, refused_wrong,
    ring_in_itself, row_of, small_housings, told, walked_home, walked_put, walked_take,
)

RING = Plan(5, True, [])
LINE = Plan(5, False, [])
FEW = [0, 1, 4, 5, 8, 9]
# One of each word that a fault can have.
FAULTS = [
    (RING, [], "list", 0), (RING, [None] * 4, "list", 0), (LINE, [None] * 6, "list", 0),
    (RING, [None, None, True, None, None], "key", 2), (LINE, [None, "x", None, None, None], "key", 1),
    (RING, [0, None, None, 0, None], "twice", 3), (LINE, [None, None, None, 4, None], "home", 3),
    (RING, [4, None, None, None, None], "empty", 0), (LINE, [None, None, 1, None, None], "empty", 2),
    (RING, [None, None, None, 8, 3], "order", 4), (LINE, [5, 0, None, None, None], "order", 1),
    (RING, [3, 4, 0, 1, 2], "turned", 0), (Plan(2, True, []), [1, 2], "turned", 0),
]


def state_of(row):
    return (row.plan, row.rooms_held(), row.keys_held(), row.many(), row.deeds())


def refused_unkept(test, plan, rooms, word, room):
    with test.assertRaises(Unkept) as caught:
        Row(plan, rooms)
    test.assertIs(type(caught.exception), Unkept)
    test.assertEqual((caught.exception.word, caught.exception.room), (word, room))


def refused_no_room(test, row, key):
    with test.assertRaises(NoRoom) as caught:
        row.put(key)
    test.assertIs(type(caught.exception), NoRoom)
    plan = row.plan
    test.assertTrue(
        is_crowd_there(plan.rooms, plan.wraps, plan.homes, row.keys_held() + [key], caught.exception.room))


class Making(unittest.TestCase):
    def test_an_empty_row(self):
        for plan in (RING, LINE, Plan(1, True, []), Plan(1, False, [(3, 3)]), Plan(64, True, []), Plan(64, False, [])):
            for row in (Row(plan), Row(plan, None), Row(plan, [None] * plan.rooms)):
                self.assertIs(row.plan, plan)
                self.assertEqual(state_of(row), (plan, [None] * plan.rooms, [], 0, []))
                self.assertIsNone(row.room_of(3))

    def test_a_row_of_a_kept_housing(self):
        row = Row(RING, [13, 4, None, 3, 8])
        self.assertIs(row.plan, RING)
        self.assertEqual(state_of(row), (RING, [13, 4, None, 3, 8], [13, 4, 3, 8], 4, []))
        self.assertEqual([row.room_of(key) for key in (3, 4, 8, 13, 0, 18, MOST)], [3, 1, 4, 0, None, None, None])

    def test_a_full_one(self):
        row = Row(LINE, [0, 5, 1, 3, 8])
        self.assertEqual(state_of(row), (LINE, [0, 5, 1, 3, 8], [0, 5, 1, 3, 8], 5, []))
        self.assertEqual(row.room_of(0), 0)

    def test_the_key_0_is_a_key_and_its_room_0_a_room(self):
        row = Row(RING, [0, None, None, None, None])
        self.assertEqual((row.keys_held(), row.many(), row.room_of(0)), ([0], 1, 0))
        self.assertEqual(told(row.put, 0), ("There", {"key": 0}))
        self.assertEqual(row.take(0), (0, []))

    def test_every_kept_housing_and_no_other(self):
        for plan, keys, housing in small_housings():
            row = Row(plan, housing)
            self.assertEqual(row.rooms_held(), housing)
            self.assertEqual(row.many(), len(keys))
            self.assertEqual(sorted(row.keys_held()), keys)
            self.assertEqual(row.deeds(), [])
            for key in FEW:
                self.assertEqual(row.room_of(key), housing.index(key) if key in keys else None)

    def test_no_plan(self):
        for plan in NO_PLANS + [Row(RING)]:
            refused_wrong(self, 0, Row, plan)
            refused_wrong(self, 0, Row, plan, None)
            refused_wrong(self, 0, Row, plan, "x")
            refused_wrong(self, 0, Row, plan, [None] * 5)

    def test_no_list(self):
        for plan in (RING, Plan(1, False, [])):
            for rooms in (True, False, 0, 5, "", "abcde", (), (None,), (None,) * 5, {}, {0: None}, set(), range(5),
                          b"abcde", object(), Stranger(), list, plan, Row(plan)):
                refused_wrong(self, 1, Row, plan, rooms)

    def test_each_kind_of_fault(self):
        for plan, rooms, word, room in FAULTS:
            self.assertEqual(fault_of(plan, rooms), (word, room))
            refused_unkept(self, plan, rooms, word, room)

    def test_things_that_are_no_keys(self):
        for thing in NO_NUMBERS:
            if thing is not None:
                refused_unkept(self, RING, [None, None, None, None, thing], "key", 4)
        refused_unkept(self, Plan(1, True, []), ring_in_itself(), "key", 0)

    def test_a_refusal_leaves_the_list_as_it_was(self):
        for plan, rooms, word, room in FAULTS:
            before = list(rooms)
            told(Row, plan, rooms)
            self.assertEqual(rooms, before)


class Puts(unittest.TestCase):
    def test_on_a_ring(self):
        row = Row(RING)
        self.assertEqual(row.put(3), [(3, 3)])
        self.assertEqual(row.put(8), [(8, 4)])
        self.assertEqual(row.put(4), [(4, 0)])
        self.assertEqual(row.put(13), [(13, 0), (4, 1)])
        self.assertEqual(row.rooms_held(), [13, 4, None, 3, 8])
        self.assertEqual(row.put(0), [(0, 2)])
        self.assertEqual(row.rooms_held(), [13, 4, 0, 3, 8])

    def test_past_the_last_room_and_round(self):
        row = Row(RING, [0, 1, None, 3, 4])
        self.assertEqual(row.put(8), [(8, 4), (4, 0), (0, 1), (1, 2)])
        self.assertEqual(row.rooms_held(), [4, 0, 1, 3, 8])
        row = Row(RING, [None, 1, 2, 3, 4])
        self.assertEqual(row.put(6), [(6, 2), (2, 3), (3, 4), (4, 0)])
        self.assertEqual(row.rooms_held(), [4, 1, 6, 2, 3])

    def test_the_lesser_one_stays_ahead(self):
        row = Row(RING, [None, None, None, 8, None])
        self.assertEqual(row.put(3), [(3, 3), (8, 4)])
        self.assertEqual(row.put(13), [(13, 0)])
        self.assertEqual(row.rooms_held(), [13, None, None, 3, 8])

    def test_on_a_line(self):
        row = Row(LINE)
        self.assertEqual(row.put(1), [(1, 1)])
        self.assertEqual(row.put(5), [(5, 0)])
        self.assertEqual(row.put(0), [(0, 0), (5, 1), (1, 2)])
        self.assertEqual(row.put(3), [(3, 3)])
        self.assertEqual(row.put(10), [(10, 2), (1, 3), (3, 4)])
        self.assertEqual(row.rooms_held(), [0, 5, 10, 1, 3])

    def test_none_moves_behind_the_first_empty_room(self):
        row = Row(LINE, [0, 1, None, 3, 4])
        self.assertEqual(row.put(5), [(5, 1), (1, 2)])
        self.assertEqual(row.rooms_held(), [0, 5, 1, 3, 4])

    def test_one_room(self):
        for wraps in (True, False):
            row = Row(Plan(1, wraps, []))
            self.assertEqual(row.put(MOST), [(MOST, 0)])
            self.assertEqual(told(row.put, MOST), ("There", {"key": MOST}))
            self.assertEqual(told(row.put, 0), ("NoRoom", {"room": 0}))
            self.assertEqual(state_of(row)[1:], ([MOST], [MOST], 1, [("put", MOST)]))

    def test_homes_told(self):
        row = Row(Plan(3, True, [(10, 2), (11, 2)]))
        self.assertEqual([row.put(11), row.put(2), row.put(10)], [[(11, 2)], [(2, 2), (11, 0)], [(10, 0), (11, 1)]])

    def test_word_by_word_and_to_the_one_kept_housing(self):
        for plan, keys, housing in small_housings():
            for key in FEW:
                kept = None if key in keys else only_kept(plan, keys + [key])
                if kept is None:
                    continue
                row = Row(plan, housing)
                came = row.put(key)
                self.assertEqual((came, row.rooms_held()), walked_put(plan, housing, key))
                self.assertEqual(row.rooms_held(), kept)
                self.assertEqual(came[0], (key, row.room_of(key)))
                for other, room in came[1:]:
                    self.assertEqual(room, (housing.index(other) + 1) % plan.rooms)

    def test_large_ones_word_by_word(self):
        for row in large_rows():
            before = row.rooms_held()
            for key in (2, 77, 1001, MOST):
                other = row.copied()
                answer = told(other.put, key)
                if answer[0] == "told":
                    self.assertEqual((answer[1], other.rooms_held()), walked_put(row.plan, before, key))
                    self.assertIsNone(fault_of(row.plan, other.rooms_held()))

    def test_told_is_a_list_of_tuples(self):
        came = Row(RING, [None, None, None, 8, None]).put(3)
        self.assertIs(type(came), list)
        self.assertEqual([type(pair) for pair in came], [tuple, tuple])


class PutRefusals(unittest.TestCase):
    def test_there(self):
        row = Row(RING, [13, 4, None, 3, 8])
        for key in (13, 4, 3, 8):
            with self.assertRaises(There) as caught:
                row.put(key)
            self.assertIs(type(caught.exception), There)
            self.assertEqual(caught.exception.key, key)
        self.assertEqual(state_of(row), (RING, [13, 4, None, 3, 8], [13, 4, 3, 8], 4, []))

    def test_there_comes_ahead_of_no_room(self):
        for row in (Row(RING, [0, 1, 2, 3, 4]), Row(LINE, [0, 1, 2, 3, 4])):
            for key in range(5):
                self.assertEqual(told(row.put, key), ("There", {"key": key}))
            refused_no_room(self, row, 5)
            self.assertEqual(row.rooms_held(), [0, 1, 2, 3, 4])
            self.assertEqual(row.deeds(), [])

    def test_no_room_on_a_line_though_rooms_are_left(self):
        row = Row(LINE, [None, None, None, None, 4])
        self.assertEqual(told(row.put, 9), ("NoRoom", {"room": 4}))
        row = Row(LINE, [None, None, None, 3, 8])
        for key in (4, 9, 13):
            refused_no_room(self, row, key)
        self.assertEqual(state_of(row), (LINE, [None, None, None, 3, 8], [3, 8], 2, []))
        self.assertEqual(row.put(2), [(2, 2)])

    def test_no_room_where_others_would_be_pushed_over_the_end(self):
        row = Row(LINE, [None, None, 2, 3, 4])
        refused_no_room(self, row, 7)
        self.assertEqual(row.rooms_held(), [None, None, 2, 3, 4])
        self.assertEqual(row.put(1), [(1, 1)])

    def test_just_where_they_do_not_fit(self):
        for plan, keys, housing in small_housings():
            row = Row(plan, housing)
            for key in FEW:
                if key not in keys and only_kept(plan, keys + [key]) is None:
                    refused_no_room(self, row, key)
                    self.assertEqual((row.rooms_held(), row.deeds()), (housing, []))

    def test_a_ring_keeps_room_0(self):
        row = Row(Plan(2, True, []), [2, 1])
        self.assertEqual(told(row.put, 9), ("NoRoom", {"room": 0}))

    def test_wrong(self):
        for row in (Row(RING), Row(RING, [0, 1, 2, 3, 4]), Row(LINE, [0, 1, None, None, None])):
            row.undo()
            before = state_of(row)
            for thing in NO_NUMBERS:
                refused_wrong(self, 0, row.put, thing)
                refused_wrong(self, 0, row.take, thing)
                refused_wrong(self, 0, row.room_of, thing)
            self.assertEqual(state_of(row), before)

    def test_behind_a_refusal_rooms_and_deeds_are_as_they_were(self):
        row = row_of(Plan(3, False, []), [0, 2])
        row.take(0)
        before = state_of(row)
        for call, thing in ((row.put, 2), (row.put, 5), (row.put, True), (row.take, 0), (row.take, "2")):
            self.assertNotEqual(told(call, thing)[0], "told")
            self.assertEqual(state_of(row), before)
        self.assertIs(row.undo(), True)
        self.assertEqual(row.rooms_held(), [0, None, 2])


class TakingsOut(unittest.TestCase):
    def test_on_a_ring(self):
        row = Row(RING, [13, 4, None, 3, 8])
        self.assertEqual(row.take(8), (4, [(13, 4), (4, 0)]))
        self.assertEqual(row.rooms_held(), [4, None, None, 3, 13])
        self.assertEqual(row.take(3), (3, [(13, 3), (4, 4)]))
        self.assertEqual(row.rooms_held(), [None, None, None, 13, 4])
        self.assertEqual(row.take(4), (4, []))
        self.assertEqual(row.take(13), (3, []))
        self.assertEqual(row.rooms_held(), [None] * 5)

    def test_on_a_line(self):
        row = Row(LINE, [0, 5, 10, 1, 3])
        self.assertEqual(row.take(5), (1, [(10, 1), (1, 2), (3, 3)]))
        self.assertEqual(row.rooms_held(), [0, 10, 1, 3, None])
        self.assertEqual(row.take(0), (0, [(10, 0), (1, 1)]))
        self.assertEqual(row.rooms_held(), [10, 1, None, 3, None])

    def test_on_a_line_nothing_comes_round(self):
        row = Row(LINE, [0, 5, 1, 3, 8])
        self.assertEqual(row.take(8), (4, []))
        self.assertEqual(row.take(3), (3, []))

    def test_at_the_last_room_of_a_ring_others_come_round(self):
        row = Row(RING, [9, 0, None, None, 4])
        self.assertEqual(row.take(4), (4, [(9, 4), (0, 0)]))
        self.assertEqual(row.rooms_held(), [0, None, None, None, 9])

    def test_a_key_at_home_stays(self):
        row = Row(RING, [0, 5, 2, 7, None])
        self.assertEqual(row.take(0), (0, [(5, 0)]))
        self.assertEqual(row.rooms_held(), [5, None, 2, 7, None])

    def test_from_a_full_ring_of_one_home(self):
        plan = Plan(4, True, [])
        for key, answer in ((3, (3, [(7, 3), (11, 0), (15, 1)])), (7, (0, [(11, 0), (15, 1)])), (15, (2, []))):
            row = Row(plan, [7, 11, 15, 3])
            self.assertEqual(row.take(key), answer)

    def test_one_room(self):
        for wraps in (True, False):
            row = Row(Plan(1, wraps, []), [7])
            self.assertEqual(row.take(7), (0, []))
            self.assertEqual(row.rooms_held(), [None])
            self.assertEqual(told(row.take, 7), ("NotThere", {"key": 7}))

    def test_not_there(self):
        for row in (Row(RING), Row(LINE, [0, 5, 1, 3, 8]), Row(RING, [13, 4, None, 3, 8])):
            before = state_of(row)
            for key in (2, 7, 18, MOST):
                with self.assertRaises(NotThere) as caught:
                    row.take(key)
                self.assertIs(type(caught.exception), NotThere)
                self.assertEqual(caught.exception.key, key)
            self.assertEqual(state_of(row), before)

    def test_word_by_word_and_to_the_one_kept_housing(self):
        for plan, keys, housing in small_housings():
            for key in keys:
                row = Row(plan, housing)
                answer = row.take(key)
                self.assertEqual(answer + (row.rooms_held(),), walked_take(plan, housing, key))
                self.assertEqual(row.rooms_held(), only_kept(plan, [other for other in keys if other != key]))

    def test_large_ones_word_by_word(self):
        for row in large_rows():
            before = row.rooms_held()
            for key in row.keys_held()[::3]:
                other = row.copied()
                self.assertEqual(other.take(key) + (other.rooms_held(),), walked_take(row.plan, before, key))
                self.assertIsNone(fault_of(row.plan, other.rooms_held()))

    def test_told_is_a_tuple_with_a_list_of_tuples(self):
        answer = Row(RING, [None, None, None, 3, 8]).take(3)
        self.assertEqual([type(answer), type(answer[1]), type(answer[1][0])], [tuple, list, tuple])


class OneShape(unittest.TestCase):
    def test_in_whatever_order_they_are_put(self):
        for plan in (RING, LINE, Plan(4, True, [(8, 3), (1, 3)]), Plan(4, False, [(8, 1), (1, 0)])):
            for keys in ([3, 8, 4, 13], [0, 5, 1, 2], [0, 4, 8, 12], [1, 5, 9], [9, 2, 1, 0]):
                kept = only_kept(plan, keys)
                for order in permutations(keys):
                    if kept is not None:
                        self.assertEqual(row_of(plan, order).rooms_held(), kept)

    def test_with_others_put_in_and_taken_out_between(self):
        for plan, keys, housing in small_housings():
            row = Row(plan)
            for step, key in enumerate(keys):
                other = FEW[-1 - step]
                if other not in row.keys_held() and told(row.put, other)[0] == "told":
                    told(row.put, key)
                    row.take(other)
                if row.room_of(key) is None:
                    row.put(key)
            self.assertEqual(row.rooms_held(), housing)

    def test_emptied_in_whatever_order(self):
        for order in permutations([3, 8, 4, 13, 0]):
            row = Row(RING, [13, 4, 0, 3, 8])
            left = [3, 8, 4, 13, 0]
            for key in order:
                row.take(key)
                left.remove(key)
                self.assertEqual(row.rooms_held(), housed_rooms(RING, left))

    def test_behind_each_deed_it_is_the_kept_housing_of_its_keys(self):
        for wraps in (True, False):
            for rooms, most in ((3, 9), (8, 30), (16, 400), (64, 200)):
                plan = Plan(rooms, wraps, [(key, 2 * key + 1) for key in range(0, 30, 3)])
                row, keys = Row(plan), []
                for key in numbers_from(rooms, 300, most):
                    if key in keys:
                        row.take(key)
                        keys.remove(key)
                    elif told(row.put, key)[0] == "told":
                        keys.append(key)
                    self.assertEqual(sorted(row.keys_held()), sorted(keys))
                    self.assertTrue(is_kept(rooms, wraps, plan.homes, row.rooms_held()))
                    self.assertEqual(row.rooms_held(), housed_rooms(plan, keys))

    def test_two_rows_are_alike_just_where_they_have_the_same_keys(self):
        seen = {}
        for plan, keys, housing in small_housings():
            where = (plan.rooms, plan.wraps, tuple(plan.homes), tuple(row_of(plan, keys).rooms_held()))
            self.assertEqual(seen.setdefault(where, keys), keys)


class Undoing(unittest.TestCase):
    def test_nothing_to_undo(self):
        for row in (Row(RING), Row(RING, [13, 4, None, 3, 8]), Row(LINE, [0, 5, 1, 3, 8])):
            before = state_of(row)
            self.assertIs(row.undo(), False)
            self.assertIs(row.undo(), False)
            self.assertEqual(state_of(row), before)

    def test_a_put_and_a_taking_out(self):
        row = Row(RING, [13, 4, None, 3, 8])
        row.put(0)
        row.take(3)
        self.assertEqual(row.deeds(), [("put", 0), ("take", 3)])
        self.assertEqual(row.rooms_held(), [4, 0, None, 8, 13])
        self.assertIs(row.undo(), True)
        self.assertEqual(state_of(row), (RING, [13, 4, 0, 3, 8], [13, 4, 0, 3, 8], 5, [("put", 0)]))
        self.assertIs(row.undo(), True)
        self.assertEqual(state_of(row), (RING, [13, 4, None, 3, 8], [13, 4, 3, 8], 4, []))
        self.assertIs(row.undo(), False)

    def test_an_undoing_is_no_deed(self):
        row = Row(RING)
        row.put(3)
        row.undo()
        self.assertEqual(row.deeds(), [])
        self.assertIs(row.undo(), False)
        self.assertEqual(row.rooms_held(), [None] * 5)

    def test_deeds_behind_an_undoing(self):
        row = row_of(LINE, [0, 5, 1])
        row.undo()
        row.put(2)
        self.assertEqual(row.deeds(), [("put", 0), ("put", 5), ("put", 2)])
        row.undo()
        row.undo()
        self.assertEqual((row.deeds(), row.rooms_held()), ([("put", 0)], [0, None, None, None, None]))

    def test_a_taking_out_of_a_full_ring_is_undone(self):
        for key in (3, 7, 11, 15):
            row = Row(Plan(4, True, []), [7, 11, 15, 3])
            row.take(key)
            self.assertIs(row.undo(), True)
            self.assertEqual((row.rooms_held(), row.deeds()), ([7, 11, 15, 3], []))

    def test_step_by_step_to_the_first_state(self):
        for wraps in (True, False):
            for rooms, most in ((1, 3), (4, 9), (7, 20), (64, 150)):
                row, first = Row(Plan(rooms, wraps, [(2, 1), (5, 6)])), []
                for key in numbers_from(rooms + 5, 200, most):
                    before = state_of(row)
                    if told(row.take if row.room_of(key) is not None else row.put, key)[0] == "told":
                        first.append(before)
                self.assertEqual(len(row.deeds()), len(first))
                while first:
                    self.assertIs(row.undo(), True)
                    self.assertEqual(state_of(row), first.pop())
                self.assertIs(row.undo(), False)
                self.assertEqual(row.many(), 0)

    def test_refused_deeds_are_none(self):
        row = row_of(Plan(2, True, []), [0, 1])
        for call, thing in ((row.put, 0), (row.put, 2), (row.take, 2), (row.put, None), (row.take, -1)):
            told(call, thing)
        self.assertEqual(row.deeds(), [("put", 0), ("put", 1)])


class Copies(unittest.TestCase):
    def test_a_copy_has_the_very_plan_the_same_rooms_and_deeds(self):
        row = row_of(RING, [3, 8, 4, 13])
        row.take(8)
        other = row.copied()
        self.assertIs(type(other), Row)
        self.assertIsNot(other, row)
        self.assertIs(other.plan, row.plan)
        self.assertEqual(state_of(other), state_of(row))

    def test_both_go_on_apart(self):
        row = row_of(RING, [3, 8])
        other = row.copied()
        row.put(13)
        other.take(3)
        self.assertEqual((row.rooms_held(), row.deeds()), ([13, None, None, 3, 8], [("put", 3), ("put", 8), ("put", 13)]))
        self.assertEqual((other.rooms_held(), other.deeds()),
                         ([None, None, None, 8, None], [("put", 3), ("put", 8), ("take", 3)]))
        row.undo()
        row.undo()
        self.assertEqual(other.rooms_held(), [None, None, None, 8, None])
        self.assertEqual([other.undo() for step in range(4)], [True, True, True, False])
        self.assertEqual((row.rooms_held(), row.deeds()), ([None, None, None, 3, None], [("put", 3)]))

    def test_of_an_empty_row_and_of_a_copy(self):
        other = Row(LINE).copied().copied()
        self.assertEqual(state_of(other), (LINE, [None] * 5, [], 0, []))
        other.put(0)
        third = other.copied()
        third.undo()
        self.assertEqual((other.many(), third.many()), (1, 0))

    def test_two_rows_of_one_plan_know_nothing_of_one_another(self):
        one, other = Row(RING), Row(RING)
        one.put(3)
        self.assertEqual((other.rooms_held(), other.deeds()), ([None] * 5, []))


class OwnLists(unittest.TestCase):
    def test_what_is_done_to_lists_told_changes_nothing(self):
        row = row_of(RING, [8, 4, 3])
        lists = [row.rooms_held(), row.keys_held(), row.deeds(), row.put(13), row.take(3)[1]]
        before = state_of(row)
        self.assertEqual(before[1], [4, None, None, 8, 13])
        for things in lists + [row.rooms_held(), row.keys_held(), row.deeds()]:
            self.assertIs(type(things), list)
            things.clear()
            things.append(99)
            self.assertEqual(state_of(row), before)
        self.assertEqual([row.undo(), row.undo()], [True, True])
        self.assertEqual(row.rooms_held(), [4, None, None, 3, 8])

    def test_each_time_a_new_one(self):
        row = row_of(RING, [3])
        for call in (row.rooms_held, row.keys_held, row.deeds):
            self.assertIsNot(call(), call())

    def test_what_is_done_to_the_list_handed_in_changes_nothing(self):
        rooms = [13, 4, None, 3, 8]
        row = Row(RING, rooms)
        rooms[2] = 99
        rooms.pop()
        self.assertEqual(row.rooms_held(), [13, 4, None, 3, 8])

    def test_what_is_handed_in_stays_as_it_was(self):
        rooms = [13, 4, None, 3, 8]
        row = Row(RING, rooms)
        row.put(0)
        row.take(3)
        row.undo()
        self.assertEqual(rooms, [13, 4, None, 3, 8])
        self.assertEqual((RING.rooms, RING.wraps, RING.homes), (5, True, []))

    def test_what_asks_changes_nothing(self):
        row = row_of(LINE, [0, 5, 1])
        before = state_of(row)
        row.room_of(5)
        row.room_of(99)
        row.copied()
        self.assertEqual(state_of(row), before)


class Lines(unittest.TestCase):
    def held_by_earlier_ones(self, row, key):
        """Whatever comes behind the key, by home and then by itself, is put and taken out: it stays."""
        plan, room = row.plan, row.room_of(key)
        place = (walked_home(plan.rooms, plan.homes, key), key)
        for other in list(range(12)) + [MOST]:
            if (walked_home(plan.rooms, plan.homes, other), other) > place:
                changed = row.copied()
                told(changed.take if other in row.keys_held() else changed.put, other)
                self.assertEqual(changed.room_of(key), room)

    def test_no_later_key_moves_a_key(self):
        for plan, keys, housing in small_housings():
            if not plan.wraps:
                for key in keys:
                    self.held_by_earlier_ones(Row(plan, housing), key)

    def test_on_large_lines(self):
        for row in large_rows():
            if not row.plan.wraps:
                for key in row.keys_held()[::5]:
                    self.held_by_earlier_ones(row, key)

    def test_an_earlier_one_does(self):
        row = Row(LINE, [None, 1, None, None, None])
        row.put(6)
        self.assertEqual((row.room_of(1), row.room_of(6)), (1, 2))
        row.put(0)
        row.put(5)
        self.assertEqual((row.room_of(1), row.room_of(6)), (2, 3))

    def test_a_row_of_the_earlier_ones_alone_has_it_in_the_same_room(self):
        for plan, keys, housing in small_housings():
            if plan.wraps:
                continue
            order = sorted(keys, key=lambda key: (walked_home(plan.rooms, plan.homes, key), key))
            for many, key in enumerate(order):
                self.assertEqual(row_of(plan, order[:many + 1]).room_of(key), housing.index(key))


if __name__ == "__main__":
    unittest.main()
