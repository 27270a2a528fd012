"""Points 3, 4, 7 and 26 to 30: how far the keys are, windows, and what a window shows."""

import unittest

from homeward.errors import NotThere
from homeward.housed import passes_on
from homeward.plans import Plan
from homeward.rows import Row
from homeward.spread import far_sum, farthest, fars_of, shows_far, window_of

from tests.helpers import (
    MOST, NO_KEY_LISTS, NO_NUMBERS, NO_PLANS, NO_ROWS, Stranger, all_housings, all_windows, fars_in, large_rows,
    most_shown, refused_wrong, ring_in_itself, small_housings, small_key_lists, small_plans, told, walked_far,
)

RING = Plan(5, True, [])
LINE = Plan(5, False, [])
EXAMPLE = Row(RING, [13, 4, None, 3, 8])


class Fars(unittest.TestCase):
    def test_the_example(self):
        self.assertEqual(fars_of(EXAMPLE), [(13, 2), (4, 2), (3, 0), (8, 1)])
        self.assertEqual(farthest(EXAMPLE), (2, 13, 0))
        self.assertEqual(far_sum(EXAMPLE), 5)

    def test_an_empty_row(self):
        for plan in (RING, LINE, Plan(1, True, []), Plan(64, False, [])):
            self.assertEqual(fars_of(Row(plan)), [])
            self.assertIsNone(farthest(Row(plan)))
            self.assertEqual(far_sum(Row(plan)), 0)
            self.assertIs(type(far_sum(Row(plan))), int)

    def test_of_several_as_far_the_one_in_the_least_room(self):
        self.assertEqual(farthest(Row(RING, [0, 1, 2, 3, 4])), (0, 0, 0))
        self.assertEqual(farthest(Row(RING, [None, None, None, 3, 4])), (0, 3, 3))
        self.assertEqual(farthest(Row(LINE, [0, 5, 1, 3, 8])), (1, 5, 1))
        self.assertEqual(farthest(Row(RING, [4, 0, None, 3, 8])), (1, 4, 0))

    def test_the_farthest_may_stand_anywhere(self):
        self.assertEqual(farthest(Row(LINE, [0, 5, 10, None, None])), (2, 10, 2))
        self.assertEqual(farthest(Row(LINE, [0, 5, 10, 15, 20])), (4, 20, 4))
        self.assertEqual(farthest(Row(Plan(4, True, []), [7, 11, 15, 3])), (3, 15, 2))

    def test_a_full_row_and_one_room(self):
        row = Row(Plan(4, True, []), [7, 11, 15, 3])
        self.assertEqual(fars_of(row), [(7, 1), (11, 2), (15, 3), (3, 0)])
        self.assertEqual(far_sum(row), 6)
        one = Row(Plan(1, False, []), [MOST])
        self.assertEqual((fars_of(one), farthest(one), far_sum(one)), ([(MOST, 0)], (0, MOST, 0), 0))

    def test_homes_told(self):
        row = Row(Plan(3, True, [(10, 2), (11, 2), (1, 2)]), [10, 11, 1])
        self.assertEqual((fars_of(row), farthest(row), far_sum(row)), ([(10, 1), (11, 2), (1, 0)], (2, 11, 1), 3))

    def test_as_walked(self):
        rows = [Row(plan, housing) for plan, keys, housing in small_housings()] + large_rows()
        for row in rows:
            plan, held = row.plan, row.rooms_held()
            fars = fars_in(plan, held)
            self.assertEqual(fars_of(row), list(zip(row.keys_held(), fars)))
            self.assertEqual(far_sum(row), sum(fars))
            if fars:
                far, key, room = farthest(row)
                self.assertEqual(far, max(fars))
                self.assertEqual((key, room), (row.keys_held()[fars.index(far)], held.index(key)))

    def test_the_sum_is_that_of_all_that_pass_on(self):
        for row in large_rows():
            self.assertEqual(far_sum(row), sum(passes_on(row.plan, row.keys_held())))

    def test_kinds_and_own_lists(self):
        row = Row(RING, [13, 4, None, 3, 8])
        fars = fars_of(row)
        self.assertEqual([type(fars), type(fars[0]), type(farthest(row))], [list, tuple, tuple])
        fars.clear()
        self.assertEqual(len(fars_of(row)), 4)
        self.assertEqual((row.rooms_held(), row.deeds()), ([13, 4, None, 3, 8], []))


class Windows(unittest.TestCase):
    def shown(self, plan, keys, window, most):
        """Each far up to most is shown, and no greater one; none at all where most is -1."""
        for far in range(most + 1):
            self.assertIs(shows_far(plan, keys, far, window), True)
        for far in (most + 1, most + 2, 100):
            self.assertIs(shows_far(plan, keys, far, window), False)

    def test_one_room(self):
        self.shown(RING, [3, 8, 4, 13], (3, 3), 2)
        self.shown(RING, [3, 8, 4, 13], (4, 4), 0)
        self.shown(RING, [3, 8, 4, 13], (0, 0), -1)
        self.shown(LINE, [0, 5, 1, 3], (0, 0), 1)

    def test_several_rooms(self):
        self.shown(RING, [3, 8, 4, 13], (3, 4), 2)
        self.shown(RING, [3, 8, 4, 13], (2, 4), 1)
        self.shown(LINE, [0, 5, 1, 6, 3], (0, 1), 2)
        self.shown(LINE, [0, 5, 1, 6, 3], (0, 3), 1)

    def test_that_go_round(self):
        self.shown(RING, [3, 8, 4, 13, 0], (3, 0), 2)
        self.shown(RING, [3, 8, 4, 13, 0], (4, 0), 0)
        self.shown(RING, [3, 8, 4, 13, 0], (4, 3), 0)
        self.shown(RING, [4, 9, 0, 5], (4, 0), 2)
        self.shown(RING, [3, 8, 4, 13], (3, 1), 0)

    def test_of_all_rooms(self):
        for window in ((0, 4), (1, 0), (2, 1), (3, 2), (4, 3)):
            self.shown(RING, [3, 8, 4, 13, 0], window, 0)
            self.shown(RING, [3, 8, 4, 13], window, -1)
            self.shown(RING, list(range(100)), window, 95)
        self.shown(LINE, [0, 1, 2, 5, 6], (0, 4), 0)
        self.shown(Plan(1, True, []), [7], (0, 0), 0)
        self.shown(Plan(1, False, []), [], (0, 0), -1)

    def test_the_most_far(self):
        plan = Plan(1, True, [])
        self.assertIs(shows_far(plan, list(range(100)), 99, (0, 0)), True)
        self.assertIs(shows_far(plan, list(range(100)), 100, (0, 0)), False)

    def test_no_keys(self):
        for plan in (RING, LINE):
            for window in all_windows(plan):
                self.assertIs(shows_far(plan, [], 0, window), False)

    def test_homes_told(self):
        plan = Plan(4, True, [(0, 3), (1, 7), (2, 3)])
        self.shown(plan, [0, 1, 2, 3], (3, 3), 3)
        self.shown(plan, [0, 1, 2, 3], (0, 2), -1)

    def test_counted_home_by_home(self):
        for plan in small_plans():
            for keys in small_key_lists(plan):
                for window in all_windows(plan):
                    most = most_shown(plan, keys, window)
                    self.assertIs(shows_far(plan, keys, max(most, 0), window), most >= 0)
                    self.assertIs(shows_far(plan, keys, max(most, -1) + 1, window), False)

    def test_every_housing_has_a_key_as_far(self):
        for plan in small_plans():
            if plan.rooms > 4:
                continue
            for keys in small_key_lists(plan):
                shown = [
                    far for far in range(6) for window in all_windows(plan) if shows_far(plan, keys, far, window)
                ]
                for housing in all_housings(plan.rooms, plan.wraps, plan.homes, keys):
                    self.assertGreaterEqual(max(fars_in(plan, housing), default=-1), max(shown, default=-1))


class ShowsFarWrongs(unittest.TestCase):
    def test_no_plan(self):
        for plan in NO_PLANS + [EXAMPLE]:
            refused_wrong(self, 0, shows_far, plan, [3], 0, (3, 3))
            refused_wrong(self, 0, shows_far, plan, None, None, None)

    def test_no_list_of_keys(self):
        for keys in NO_KEY_LISTS + [list(range(101)), EXAMPLE]:
            refused_wrong(self, 1, shows_far, RING, keys, 0, (3, 3))
            refused_wrong(self, 1, shows_far, LINE, keys, -1, (3, 2))
        for thing in NO_NUMBERS:
            refused_wrong(self, 1, shows_far, RING, [3, thing], 0, (3, 3))

    def test_no_far(self):
        for far in NO_NUMBERS + [101, 102, MOST]:
            refused_wrong(self, 2, shows_far, RING, [3], far, (3, 3))
            refused_wrong(self, 2, shows_far, LINE, [3], far, (3, 2))
            refused_wrong(self, 2, shows_far, RING, [], far, None)

    def test_no_window(self):
        for plan in (RING, LINE, Plan(1, True, [])):
            for window in NO_NUMBERS + [[0, 0], (0,), (0, 0, 0), {0: 0}, {0}, "00", 0, 3, range(2), Row(plan)]:
                refused_wrong(self, 3, shows_far, plan, [3], 0, window)
            for thing in NO_NUMBERS + [plan.rooms, plan.rooms + 1, 64, MOST]:
                refused_wrong(self, 3, shows_far, plan, [3], 0, (thing, 0))
                refused_wrong(self, 3, shows_far, plan, [3], 0, (0, thing))
                refused_wrong(self, 3, shows_far, plan, [3], 0, (thing, thing))
            refused_wrong(self, 3, shows_far, plan, [3], 0, (Stranger(), ring_in_itself()))

    def test_on_a_line_first_is_not_above_last(self):
        for first in range(5):
            for last in range(5):
                answer = told(shows_far, LINE, [3], 0, (first, last))
                self.assertEqual(answer[0], "told" if first <= last else "Wrong")
                self.assertEqual(told(shows_far, RING, [3], 0, (first, last))[0], "told")
        refused_wrong(self, 3, shows_far, LINE, [3], 0, (1, 0))

    def test_what_is_handed_in_stays_as_it_was(self):
        keys = [3, 8, 4]
        shows_far(RING, keys, 1, (3, 4))
        told(shows_far, RING, keys, 1, (3, 5))
        self.assertEqual((keys, RING.homes), ([3, 8, 4], []))


class WindowsOfKeys(unittest.TestCase):
    def shows_its_far(self, row, key):
        plan = row.plan
        window = window_of(row, key)
        self.assertIs(type(window), tuple)
        self.assertEqual([type(room) for room in window], [int, int])
        self.assertIn(window, all_windows(plan))
        far = walked_far(plan.rooms, plan.wraps, plan.homes, key, row.rooms_held().index(key))
        self.assertGreaterEqual(most_shown(plan, row.keys_held(), window), far)
        self.assertIs(shows_far(plan, row.keys_held(), far, window), True)

    def test_of_each_key_of_small_rows(self):
        for plan, keys, housing in small_housings():
            for key in keys:
                self.shows_its_far(Row(plan, housing), key)

    def test_of_each_key_of_large_rows(self):
        for row in large_rows():
            for key in row.keys_held():
                self.shows_its_far(row, key)

    def test_of_each_key_of_full_rings(self):
        for rooms in (1, 2, 3, 17, 64):
            for step in (1, rooms, rooms + 1, 2 * rooms - 1):
                row = Row(Plan(rooms, True, []))
                for many in range(rooms):
                    row.put(many * step + 2)
                for key in row.keys_held():
                    self.shows_its_far(row, key)

    def test_of_each_key_of_full_lines(self):
        for rooms in (1, 2, 3, 17, 64):
            row = Row(Plan(rooms, False, [(7 * key, key // 3) for key in range(rooms)]))
            for key in range(rooms):
                row.put(7 * key)
            for key in row.keys_held():
                self.shows_its_far(row, key)

    def test_one_that_goes_round(self):
        row = Row(RING, [9, 14, 0, None, 4])
        self.assertEqual([far for key, far in fars_of(row)], [1, 2, 2, 0])
        self.shows_its_far(row, 0)
        self.assertEqual(most_shown(RING, row.keys_held(), (4, 0)), 2)

    def test_no_housing_has_a_lesser_farthest_nor_a_lesser_sum(self):
        for plan, keys, housing in small_housings():
            if plan.rooms > 4 or not keys:
                continue
            row = Row(plan, housing)
            for other in all_housings(plan.rooms, plan.wraps, plan.homes, keys):
                self.assertGreaterEqual(max(fars_in(plan, other)), farthest(row)[0])
                self.assertGreaterEqual(sum(fars_in(plan, other)), far_sum(row))

    def test_not_there(self):
        for row in (Row(RING), Row(LINE), EXAMPLE, Row(LINE, [0, 5, 1, 3, 8])):
            for key in (2, 18, MOST):
                with self.assertRaises(NotThere) as caught:
                    window_of(row, key)
                self.assertIs(type(caught.exception), NotThere)
                self.assertEqual(caught.exception.key, key)

    def test_wrong(self):
        for row in NO_ROWS:
            refused_wrong(self, 0, window_of, row, 3)
            refused_wrong(self, 0, window_of, row, None)
        for key in NO_NUMBERS:
            refused_wrong(self, 1, window_of, EXAMPLE, key)
            refused_wrong(self, 1, window_of, Row(LINE), key)

    def test_it_changes_nothing(self):
        row = Row(RING)
        row.put(3)
        window_of(row, 3)
        told(window_of, row, 8)
        self.assertEqual((row.rooms_held(), row.deeds()), ([None, None, None, 3, None], [("put", 3)]))


if __name__ == "__main__":
    unittest.main()
