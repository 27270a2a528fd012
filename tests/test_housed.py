"""Points 3 to 6 and 15 to 17: keys that fit and crowds, the one kept housing, how many pass on."""

import unittest
from itertools import permutations

from homeward.errors import NoRoom
from homeward.faults import fault_of
from homeward.housed import housed_rooms, is_crowd, passes_on
from homeward.plans import Plan

from tests.helpers import (
    MOST, NO_KEY_LISTS, NO_NUMBERS, NO_PLANS, all_housings, is_crowd_there, is_kept, passed_in, refused_wrong,
    small_key_lists, small_plans, told,
)

EXAMPLE = Plan(5, True, [])


def refused_no_room(test, plan, keys):
    for call in (housed_rooms, passes_on):
        with test.assertRaises(NoRoom) as caught:
            call(plan, keys)
        test.assertIs(type(caught.exception), NoRoom)
        room = caught.exception.room
        test.assertIs(type(room), int)
        test.assertTrue(is_crowd_there(plan.rooms, plan.wraps, plan.homes, keys, room))
        test.assertIs(is_crowd(plan, keys, room), True)


class Example(unittest.TestCase):
    def test_the_kept_housing(self):
        self.assertEqual(housed_rooms(EXAMPLE, [3, 8, 4, 13]), [13, 4, None, 3, 8])

    def test_how_many_pass_on(self):
        self.assertEqual(passes_on(EXAMPLE, [3, 8, 4, 13]), [1, 0, 0, 2, 2])

    def test_it_has_no_fault(self):
        self.assertIsNone(fault_of(EXAMPLE, [13, 4, None, 3, 8]))

    def test_homes_fars_and_who_goes_ahead(self):
        self.assertEqual([EXAMPLE.home(key) for key in (3, 8, 13, 4)], [3, 3, 3, 4])
        self.assertEqual((EXAMPLE.far(8, 4), EXAMPLE.far(4, 4)), (1, 0))
        self.assertIs(EXAMPLE.goes_ahead(4, 8, 4), True)
        self.assertEqual((EXAMPLE.far(13, 0), EXAMPLE.far(4, 0)), (2, 1))
        self.assertIs(EXAMPLE.goes_ahead(0, 13, 4), True)

    def test_in_whatever_order(self):
        for keys in permutations([3, 8, 4, 13]):
            self.assertEqual(housed_rooms(EXAMPLE, list(keys)), [13, 4, None, 3, 8])
            self.assertEqual(passes_on(EXAMPLE, list(keys)), [1, 0, 0, 2, 2])


class Housings(unittest.TestCase):
    def test_no_keys(self):
        for rooms in (1, 2, 5, 64):
            for wraps in (True, False):
                plan = Plan(rooms, wraps, [(1, 1)])
                self.assertEqual(housed_rooms(plan, []), [None] * rooms)
                self.assertEqual(passes_on(plan, []), [0] * rooms)
                self.assertEqual([is_crowd(plan, [], room) for room in range(rooms)], [False] * rooms)

    def test_one_room(self):
        for wraps in (True, False):
            plan = Plan(1, wraps, [])
            self.assertEqual(housed_rooms(plan, [MOST]), [MOST])
            self.assertEqual(passes_on(plan, [MOST]), [0])
            refused_no_room(self, plan, [0, 1])

    def test_a_full_ring(self):
        plan = Plan(4, True, [])
        self.assertEqual(housed_rooms(plan, [3, 7, 11, 15]), [7, 11, 15, 3])
        self.assertEqual(passes_on(plan, [3, 7, 11, 15]), [2, 1, 0, 3])
        self.assertEqual(housed_rooms(plan, [0, 1, 2, 3]), [0, 1, 2, 3])
        self.assertEqual(passes_on(plan, [0, 1, 2, 3]), [0, 0, 0, 0])
        refused_no_room(self, plan, [0, 1, 2, 3, 4])

    def test_a_full_ring_of_64(self):
        plan = Plan(64, True, [])
        same = [64 * step + 63 for step in range(64)]
        self.assertEqual(housed_rooms(plan, same), same[1:] + same[:1])
        self.assertEqual(passes_on(plan, same), list(range(62, -1, -1)) + [63])
        refused_no_room(self, plan, same + [0])

    def test_a_full_line(self):
        plan = Plan(4, False, [])
        self.assertEqual(housed_rooms(plan, [3, 2, 0, 4]), [0, 4, 2, 3])
        self.assertEqual(passes_on(plan, [3, 2, 0, 4]), [1, 0, 0, 0])
        self.assertEqual(housed_rooms(plan, [8, 0, 12, 4]), [0, 4, 8, 12])
        self.assertEqual(passes_on(plan, [8, 0, 12, 4]), [3, 2, 1, 0])
        refused_no_room(self, plan, [0, 1, 2, 3, 4])

    def test_a_full_line_of_64(self):
        plan = Plan(64, False, [])
        same = [64 * step for step in range(64)]
        self.assertEqual(housed_rooms(plan, list(reversed(same))), same)
        self.assertEqual(passes_on(plan, same), list(range(63, -1, -1)))
        refused_no_room(self, plan, same + [1])

    def test_homes_told(self):
        plan = Plan(3, True, [(10, 2), (11, 2), (1, 2)])
        self.assertEqual(housed_rooms(plan, [10, 11, 1]), [10, 11, 1])
        self.assertEqual(passes_on(plan, [10, 11, 1]), [1, 0, 2])
        line = Plan(3, False, [(10, 0), (11, 0), (2, 1)])
        self.assertEqual(housed_rooms(line, [2, 11, 10]), [10, 11, 2])
        self.assertEqual(passes_on(line, [2, 11, 10]), [1, 1, 0])

    def test_keys_at_the_edges_of_numbers(self):
        plan = Plan(2, True, [])
        self.assertEqual(housed_rooms(plan, [MOST, 0]), [0, MOST])

    def test_just_one_of_all_housings_is_kept_and_it_is_told(self):
        for plan in small_plans():
            for keys in small_key_lists(plan):
                found = all_housings(plan.rooms, plan.wraps, plan.homes, keys)
                kept = [housing for housing in found if is_kept(plan.rooms, plan.wraps, plan.homes, housing)]
                if not found:
                    refused_no_room(self, plan, keys)
                    continue
                self.assertEqual(kept, [housed_rooms(plan, keys)])
                self.assertEqual([one for one in found if fault_of(plan, one) is None], kept)

    def test_in_whatever_order(self):
        for plan in (Plan(4, True, []), Plan(4, False, []), Plan(5, True, [(0, 1), (9, 1)]), Plan(6, False, [(4, 2)])):
            for keys in ([0, 4, 8], [1, 5, 2, 6], [0, 1, 4, 9], [3, 7, 11], [4, 2, 0, 12]):
                answers = [told(housed_rooms, plan, list(order)) for order in permutations(keys)]
                self.assertEqual(answers, answers[:1] * len(answers))
                answers = [told(passes_on, plan, list(order)) for order in permutations(keys)]
                self.assertEqual(answers, answers[:1] * len(answers))

    def test_large_ones_have_no_fault(self):
        for rooms in (31, 63, 64):
            for wraps in (True, False):
                for spread in (1, 7, 32, 97):
                    plan = Plan(rooms, wraps, [(key, 3) for key in range(0, 40, 5)])
                    keys = [(spread * step * step + step) % 999983 for step in range(rooms)]
                    answer = told(housed_rooms, plan, keys)
                    back = told(housed_rooms, plan, list(reversed(keys)))
                    self.assertEqual(answer, back)
                    if answer[0] == "told":
                        self.assertIsNone(fault_of(plan, answer[1]))
                        self.assertEqual(sorted(answer[1]), sorted(keys))
                    else:
                        refused_no_room(self, plan, keys)


class Crowds(unittest.TestCase):
    def test_where_it_wraps_at_room_0_alone(self):
        plan = Plan(3, True, [])
        self.assertEqual([is_crowd(plan, [2, 5, 8], room) for room in range(3)], [False, False, False])
        self.assertEqual([is_crowd(plan, [2, 5, 8, 11], room) for room in range(3)], [True, False, False])
        self.assertEqual(told(housed_rooms, plan, [2, 5, 8, 11]), ("NoRoom", {"room": 0}))
        self.assertEqual(told(passes_on, plan, [2, 5, 8, 11]), ("NoRoom", {"room": 0}))

    def test_on_a_line(self):
        plan = Plan(4, False, [])
        self.assertEqual([is_crowd(plan, [3, 7], room) for room in range(4)], [False, False, False, True])
        self.assertEqual([is_crowd(plan, [2, 3], room) for room in range(4)], [False, False, False, False])
        self.assertEqual([is_crowd(plan, [2, 3, 6], room) for room in range(4)], [False, False, True, False])
        self.assertEqual([is_crowd(plan, [1, 2, 3, 5], room) for room in range(4)], [False, True, False, False])
        self.assertEqual([is_crowd(plan, [0, 1, 2, 3, 4], room) for room in range(4)], [True, False, False, False])
        self.assertEqual([is_crowd(plan, [3, 7, 11, 15], room) for room in range(4)], [False, True, True, True])

    def test_keys_that_fit_in_no_way_though_rooms_are_left(self):
        plan = Plan(4, False, [])
        self.assertEqual(told(housed_rooms, plan, [3, 7]), ("NoRoom", {"room": 3}))
        self.assertEqual(told(passes_on, plan, [2, 3, 6]), ("NoRoom", {"room": 2}))
        self.assertEqual(housed_rooms(Plan(4, True, []), [3, 7]), [7, None, None, 3])

    def test_homes_told(self):
        plan = Plan(4, False, [(0, 3), (1, 7)])
        self.assertEqual([is_crowd(plan, [0, 1], room) for room in range(4)], [False, False, False, True])
        self.assertEqual([is_crowd(plan, [0, 2], room) for room in range(4)], [False, False, False, False])

    def test_counted_home_by_home(self):
        for plan in small_plans():
            for keys in small_key_lists(plan):
                for room in range(plan.rooms):
                    self.assertIs(
                        is_crowd(plan, keys, room),
                        is_crowd_there(plan.rooms, plan.wraps, plan.homes, keys, room))

    def test_they_fit_just_where_they_are_a_crowd_nowhere(self):
        for plan in small_plans():
            for keys in small_key_lists(plan):
                crowds = [room for room in range(plan.rooms) if is_crowd(plan, keys, room)]
                self.assertEqual(bool(crowds), not all_housings(plan.rooms, plan.wraps, plan.homes, keys))
                self.assertEqual(bool(crowds), told(housed_rooms, plan, keys)[0] == "NoRoom")

    def test_a_hundred_keys_and_one_more(self):
        for wraps in (True, False):
            plan = Plan(64, wraps, [])
            hundred = list(range(100))
            refused_no_room(self, plan, hundred)
            self.assertIs(is_crowd(plan, hundred, 0), True)
            self.assertIs(is_crowd(plan, hundred, 63), False)
            for call in (housed_rooms, passes_on):
                refused_wrong(self, 1, call, plan, hundred + [100])
            refused_wrong(self, 1, is_crowd, plan, hundred + [100], 0)


class Passing(unittest.TestCase):
    def test_counted_walk_by_walk(self):
        for plan in small_plans():
            for keys in small_key_lists(plan):
                answer = told(housed_rooms, plan, keys)
                if answer[0] == "told":
                    self.assertEqual(
                        passes_on(plan, keys), passed_in(plan.rooms, plan.wraps, plan.homes, answer[1]))

    def test_in_any_housing_at_least_as_many(self):
        for plan in small_plans():
            if plan.rooms > 4:
                continue
            for keys in small_key_lists(plan):
                for housing in all_housings(plan.rooms, plan.wraps, plan.homes, keys):
                    most = passed_in(plan.rooms, plan.wraps, plan.homes, housing)
                    for least, number in zip(passes_on(plan, keys), most):
                        self.assertLessEqual(least, number)

    def test_added_up_they_are_the_fars_added_up(self):
        for plan in small_plans():
            for keys in small_key_lists(plan):
                answer = told(housed_rooms, plan, keys)
                if answer[0] == "told":
                    fars = [plan.far(key, room) for room, key in enumerate(answer[1]) if key is not None]
                    self.assertEqual(sum(passes_on(plan, keys)), sum(fars))

    def test_on_a_line_none_passes_on_from_the_last_room(self):
        for keys in ([0, 4, 8, 12], [1, 5, 9], [3], [0, 1, 2, 3]):
            self.assertEqual(passes_on(Plan(4, False, []), keys)[3], 0)

    def test_whole_numbers(self):
        self.assertEqual({type(number) for number in passes_on(EXAMPLE, [3, 8, 4, 13])}, {int})


class Wrongs(unittest.TestCase):
    def test_no_plan(self):
        for plan in NO_PLANS:
            for call in (housed_rooms, passes_on):
                refused_wrong(self, 0, call, plan, [1])
                refused_wrong(self, 0, call, plan, None)
            refused_wrong(self, 0, is_crowd, plan, [1], 0)
            refused_wrong(self, 0, is_crowd, plan, None, None)

    def test_no_list_of_keys(self):
        for plan in (EXAMPLE, Plan(1, False, [])):
            for keys in NO_KEY_LISTS:
                for call in (housed_rooms, passes_on):
                    refused_wrong(self, 1, call, plan, keys)
                refused_wrong(self, 1, is_crowd, plan, keys, 0)
                refused_wrong(self, 1, is_crowd, plan, keys, None)

    def test_no_key_within_it(self):
        for thing in NO_NUMBERS:
            for keys in ([thing], [thing, 1], [1, thing], [2, thing, 1]):
                for call in (housed_rooms, passes_on):
                    refused_wrong(self, 1, call, EXAMPLE, keys)
                refused_wrong(self, 1, is_crowd, EXAMPLE, keys, 0)

    def test_no_room(self):
        for plan in (EXAMPLE, Plan(5, False, []), Plan(1, True, [])):
            for thing in NO_NUMBERS + [plan.rooms, plan.rooms + 1, 64, MOST]:
                refused_wrong(self, 2, is_crowd, plan, [1], thing)
                refused_wrong(self, 2, is_crowd, plan, [0, 1, 2, 3, 4, 5, 6], thing)

    def test_wrong_comes_ahead_of_no_room(self):
        refused_wrong(self, 1, housed_rooms, Plan(1, True, []), [0, 1, 1])
        refused_wrong(self, 1, passes_on, Plan(1, False, []), [0, 1, True])


class OwnLists(unittest.TestCase):
    def test_what_is_handed_in_stays_as_it_was(self):
        for plan in (Plan(5, True, [(3, 3)]), Plan(5, False, [(3, 3)])):
            for keys in ([], [13, 3, 4, 8, 1], [0, 5, 1], [4, 9, 14, 19, 24, 29, 34]):
                before = list(keys)
                told(housed_rooms, plan, keys)
                told(passes_on, plan, keys)
                is_crowd(plan, keys, 4)
                self.assertEqual(keys, before)
                self.assertEqual((plan.rooms, plan.homes), (5, [(3, 3)]))

    def test_what_is_done_to_a_list_told_changes_nothing(self):
        for call, answer in ((housed_rooms, [13, 4, None, 3, 8]), (passes_on, [1, 0, 0, 2, 2])):
            keys = [3, 8, 4, 13]
            first = call(EXAMPLE, keys)
            self.assertIs(type(first), list)
            self.assertIsNot(first, keys)
            first.clear()
            first.append(99)
            self.assertEqual(call(EXAMPLE, keys), answer)
            self.assertEqual(keys, [3, 8, 4, 13])
            self.assertIsNot(call(EXAMPLE, keys), call(EXAMPLE, keys))

    def test_what_is_done_behind_a_call_to_what_was_handed_in_changes_nothing(self):
        keys = [3, 8, 4, 13]
        rooms, passes = housed_rooms(EXAMPLE, keys), passes_on(EXAMPLE, keys)
        keys.clear()
        keys.append(1)
        self.assertEqual(rooms, [13, 4, None, 3, 8])
        self.assertEqual(passes, [1, 0, 0, 2, 2])

    def test_a_refusal_changes_nothing(self):
        keys = [3, 7, 11]
        plan = Plan(2, True, [(3, 1)])
        refused_no_room(self, plan, keys)
        self.assertEqual(keys, [3, 7, 11])
        self.assertEqual((plan.rooms, plan.wraps, plan.homes), (2, True, [(3, 1)]))
        self.assertEqual(housed_rooms(plan, [3]), [None, 3])


if __name__ == "__main__":
    unittest.main()
