"""Points 2, 3, 4 and 8 to 10: numbers, plans, homes, how far, who goes ahead."""

import unittest

from homeward.errors import Wrong
from homeward.plans import Plan, is_number

from tests.helpers import MOST, NO_NUMBERS, Stranger, refused_wrong, ring_in_itself, walked_ahead, walked_far, walked_home

NO_TRUTHS = [None, 0, 1, "", "True", [], [True], (), {}, object(), Stranger(), bool]
SOME_HOMES = [(7, 2), (0, 9), (12, 12), (3, MOST), (MOST, 1)]
SOME_KEYS = [0, 1, 2, 3, 4, 5, 7, 8, 12, 63, 64, 65, 127, 128, 999, MOST - 1, MOST]


def some_plans():
    return [
        Plan(rooms, wraps, homes)
        for rooms in (1, 2, 3, 5, 8, 63, 64) for wraps in (True, False) for homes in ([], SOME_HOMES)
    ]


class Numbers(unittest.TestCase):
    def test_numbers(self):
        for thing in (0, 1, 2, 63, 64, 100, MOST - 1, MOST):
            self.assertIs(is_number(thing), True, thing)

    def test_what_lies_beyond_is_none(self):
        for thing in (-1, -2, -MOST, MOST + 1, MOST + 2, 10 ** 19, 2 ** 64, 10 ** 5000, -(10 ** 5000)):
            self.assertIs(is_number(thing), False)

    def test_truths_are_none(self):
        self.assertIs(is_number(True), False)
        self.assertIs(is_number(False), False)

    def test_other_things_are_none(self):
        for thing in NO_NUMBERS:
            self.assertIs(is_number(thing), False)

    def test_any_int_will_do(self):
        class Figure(int):
            pass

        self.assertIs(is_number(Figure(4)), True)
        self.assertIs(is_number(Figure(-4)), False)


class Fields(unittest.TestCase):
    def test_fields_are_as_handed_in(self):
        plan = Plan(5, True, [(8, 1), (3, 0), (4, MOST)])
        self.assertEqual((plan.rooms, plan.wraps), (5, True))
        self.assertEqual(plan.homes, [(8, 1), (3, 0), (4, MOST)])
        self.assertIs(type(plan.homes), list)
        line = Plan(64, False, [])
        self.assertEqual((line.rooms, line.wraps, line.homes), (64, False, []))

    def test_wraps_is_a_truth(self):
        self.assertIs(Plan(1, True, []).wraps, True)
        self.assertIs(Plan(1, False, []).wraps, False)

    def test_what_is_done_to_the_list_handed_in_changes_nothing(self):
        homes = [(8, 1), (3, 0)]
        plan = Plan(5, True, homes)
        self.assertIsNot(plan.homes, homes)
        homes[0] = (8, 4)
        homes.append((9, 2))
        self.assertEqual(plan.homes, [(8, 1), (3, 0)])
        self.assertEqual((plan.home(8), plan.home(9)), (1, 4))
        homes.clear()
        self.assertEqual(plan.homes, [(8, 1), (3, 0)])
        self.assertEqual(plan.home(8), 1)

    def test_what_is_handed_in_stays_as_it_was(self):
        homes = [(8, 1), (3, 0)]
        plan = Plan(5, False, homes)
        plan.home(8)
        plan.far(8, 4)
        plan.goes_ahead(4, 8, 3)
        self.assertEqual(homes, [(8, 1), (3, 0)])
        self.assertEqual((plan.rooms, plan.wraps, plan.homes), (5, False, [(8, 1), (3, 0)]))

    def test_what_is_done_to_the_list_told_moves_no_home(self):
        plan = Plan(5, True, [(8, 1), (3, 0)])
        plan.homes.clear()
        plan.homes.append((4, 3))
        self.assertEqual([plan.home(key) for key in (8, 3, 4)], [1, 0, 4])

    def test_two_plans_know_nothing_of_one_another(self):
        homes = [(8, 1)]
        one, other = Plan(5, True, homes), Plan(4, False, homes)
        one.homes.append((1, 3))
        self.assertEqual(other.homes, [(8, 1)])
        self.assertEqual((one.home(9), other.home(9)), (4, 1))

    def test_a_refused_call_changes_nothing(self):
        plan = Plan(5, True, [(8, 1)])
        for call, things in ((plan.home, [-1]), (plan.far, [8, 5]), (plan.goes_ahead, [0, 8, None])):
            with self.assertRaises(Wrong):
                call(*things)
        self.assertEqual((plan.rooms, plan.wraps, plan.homes, plan.home(8)), (5, True, [(8, 1)], 1))


class PlanRefusals(unittest.TestCase):
    def test_rooms_from_1_to_64(self):
        for rooms in (1, 2, 63, 64):
            self.assertEqual(Plan(rooms, True, []).rooms, rooms)
        for rooms in (0, -1, 65, 66, MOST):
            refused_wrong(self, 0, Plan, rooms, True, [])
        for rooms in NO_NUMBERS:
            refused_wrong(self, 0, Plan, rooms, True, [])

    def test_wraps_is_true_or_false(self):
        for wraps in NO_TRUTHS:
            refused_wrong(self, 1, Plan, 5, wraps, [])

    def test_homes_is_a_list(self):
        for homes in (None, True, 0, "", "ab", (), ((1, 2),), {}, {1: 2}, {(1, 2)}, object(), Stranger(), list):
            refused_wrong(self, 2, Plan, 5, True, homes)

    def test_homes_are_tuples_of_two(self):
        for home in (None, 1, "ab", [], [1, 2], (), (1,), (1, 2, 3), {1: 2}, {1, 2}, Stranger(), ((1, 2),), ring_in_itself()):
            refused_wrong(self, 2, Plan, 5, True, [home])
            refused_wrong(self, 2, Plan, 5, True, [(7, 7), home])
            refused_wrong(self, 2, Plan, 5, True, [home, (7, 7)])
        refused_wrong(self, 2, Plan, 5, True, ring_in_itself())

    def test_homes_are_of_numbers(self):
        for thing in NO_NUMBERS:
            refused_wrong(self, 2, Plan, 5, True, [(thing, 1)])
            refused_wrong(self, 2, Plan, 5, True, [(1, thing)])
        self.assertEqual(Plan(5, True, [(0, 0), (MOST, MOST)]).homes, [(0, 0), (MOST, MOST)])

    def test_no_key_has_two_homes(self):
        refused_wrong(self, 2, Plan, 5, True, [(1, 2), (1, 3)])
        refused_wrong(self, 2, Plan, 5, True, [(1, 2), (1, 2)])
        refused_wrong(self, 2, Plan, 5, True, [(1, 2), (4, 2), (1, 3)])
        self.assertEqual(Plan(5, True, [(1, 2), (2, 2), (3, 1)]).homes, [(1, 2), (2, 2), (3, 1)])

    def test_at_most_64_homes(self):
        homes = [(key, key + 1) for key in range(64)]
        self.assertEqual(Plan(3, False, homes).homes, homes)
        refused_wrong(self, 2, Plan, 3, False, homes + [(64, 0)])

    def test_the_first_by_its_place(self):
        refused_wrong(self, 0, Plan, 0, None, None)
        refused_wrong(self, 0, Plan, True, 1, [(1, 2), (1, 2)])
        refused_wrong(self, 1, Plan, 1, None, None)
        refused_wrong(self, 0, Plan, 65, True, [(1, 2), (1, 2)])


class Homes(unittest.TestCase):
    def test_the_remainder_of_the_key(self):
        plan = Plan(5, True, [])
        self.assertEqual([plan.home(key) for key in (0, 1, 4, 5, 8, 13, MOST, MOST - 1)], [0, 1, 4, 0, 3, 3, 0, 4])

    def test_the_remainder_of_the_number_told(self):
        plan = Plan(5, False, [(8, 1), (3, 7), (0, MOST - 1), (MOST, 5)])
        self.assertEqual([plan.home(key) for key in (8, 3, 0, MOST, 4, 1, 7)], [1, 2, 4, 0, 4, 1, 2])

    def test_one_room(self):
        for wraps in (True, False):
            plan = Plan(1, wraps, [(7, 3)])
            self.assertEqual([plan.home(key) for key in (0, 1, 7, MOST)], [0, 0, 0, 0])

    def test_64_rooms(self):
        plan = Plan(64, True, [(7, 64), (8, 63)])
        self.assertEqual([plan.home(key) for key in (0, 63, 64, 127, 7, 8)], [0, 63, 0, 63, 0, 63])

    def test_as_walked(self):
        for plan in some_plans():
            for key in SOME_KEYS:
                home = plan.home(key)
                self.assertIs(type(home), int)
                self.assertEqual(home, walked_home(plan.rooms, plan.homes, key))

    def test_wrong(self):
        for plan in some_plans():
            for key in NO_NUMBERS:
                refused_wrong(self, 0, plan.home, key)


class Fars(unittest.TestCase):
    def test_where_it_wraps(self):
        plan = Plan(5, True, [])
        self.assertEqual([plan.far(8, room) for room in range(5)], [2, 3, 4, 0, 1])
        self.assertEqual([plan.far(0, room) for room in range(5)], [0, 1, 2, 3, 4])

    def test_on_a_line(self):
        plan = Plan(5, False, [])
        self.assertEqual([plan.far(8, room) for room in range(5)], [None, None, None, 0, 1])
        self.assertEqual([plan.far(4, room) for room in range(5)], [None, None, None, None, 0])
        self.assertEqual([plan.far(5, room) for room in range(5)], [0, 1, 2, 3, 4])

    def test_with_homes_told(self):
        self.assertEqual([Plan(4, True, [(8, 6)]).far(8, room) for room in range(4)], [2, 3, 0, 1])
        self.assertEqual([Plan(4, False, [(8, 6)]).far(8, room) for room in range(4)], [None, None, 0, 1])

    def test_one_room(self):
        for wraps in (True, False):
            self.assertEqual(Plan(1, wraps, []).far(9, 0), 0)

    def test_64_rooms(self):
        self.assertEqual(Plan(64, True, []).far(63, 62), 63)
        self.assertEqual(Plan(64, True, []).far(0, 63), 63)
        self.assertEqual(Plan(64, False, []).far(0, 63), 63)
        self.assertIsNone(Plan(64, False, []).far(63, 62))

    def test_as_walked(self):
        for plan in some_plans():
            for key in SOME_KEYS:
                for room in range(plan.rooms):
                    self.assertEqual(
                        plan.far(key, room), walked_far(plan.rooms, plan.wraps, plan.homes, key, room))

    def test_wrong(self):
        for plan in some_plans():
            for thing in NO_NUMBERS:
                refused_wrong(self, 0, plan.far, thing, 0)
                refused_wrong(self, 1, plan.far, 0, thing)
                refused_wrong(self, 0, plan.far, thing, thing)
            refused_wrong(self, 1, plan.far, 0, plan.rooms)
            refused_wrong(self, 1, plan.far, MOST, plan.rooms + 1)
            refused_wrong(self, 0, plan.far, MOST + 1, plan.rooms)


class Ahead(unittest.TestCase):
    def test_the_farther_one(self):
        plan = Plan(5, True, [])
        self.assertIs(plan.goes_ahead(4, 8, 4), True)
        self.assertIs(plan.goes_ahead(4, 4, 8), False)
        self.assertIs(plan.goes_ahead(0, 13, 4), True)
        self.assertIs(plan.goes_ahead(0, 4, 13), False)

    def test_farness_comes_ahead_of_being_lesser(self):
        plan = Plan(5, True, [])
        self.assertIs(plan.goes_ahead(4, 3, 4), True)
        self.assertIs(plan.goes_ahead(4, 4, 3), False)

    def test_the_lesser_of_two_as_far(self):
        for wraps in (True, False):
            plan = Plan(5, wraps, [(1, 3)])
            self.assertIs(plan.goes_ahead(4, 3, 8), True)
            self.assertIs(plan.goes_ahead(4, 8, 3), False)
            self.assertIs(plan.goes_ahead(4, 1, 3), True)

    def test_none_goes_ahead_of_itself(self):
        for plan in some_plans():
            for room in range(plan.rooms):
                for key in SOME_KEYS:
                    self.assertIs(plan.goes_ahead(room, key, key), False)

    def test_a_key_that_cannot_come_there(self):
        plan = Plan(5, False, [])
        self.assertIs(plan.goes_ahead(2, 3, 1), False)
        self.assertIs(plan.goes_ahead(2, 1, 3), True)
        self.assertIs(plan.goes_ahead(2, 3, 2), False)
        self.assertIs(plan.goes_ahead(2, 2, 3), True)
        self.assertIs(plan.goes_ahead(2, 12, 3), True)
        self.assertIs(plan.goes_ahead(2, 3, 4), False)
        self.assertIs(plan.goes_ahead(2, 4, 3), False)
        self.assertIs(plan.goes_ahead(2, 3, 3), False)

    def test_as_walked(self):
        for plan in some_plans():
            for room in sorted({0, plan.rooms // 2, plan.rooms - 1}):
                for one in SOME_KEYS:
                    for other in SOME_KEYS:
                        self.assertIs(
                            plan.goes_ahead(room, one, other),
                            walked_ahead(plan.rooms, plan.wraps, plan.homes, room, one, other))

    def test_of_two_that_can_come_there_just_one_goes_ahead(self):
        plan = Plan(8, True, SOME_HOMES)
        for room in range(8):
            for one in SOME_KEYS:
                for other in SOME_KEYS:
                    if one != other:
                        self.assertNotEqual(plan.goes_ahead(room, one, other), plan.goes_ahead(room, other, one))

    def test_wrong(self):
        for plan in some_plans():
            for thing in NO_NUMBERS:
                refused_wrong(self, 0, plan.goes_ahead, thing, 0, 1)
                refused_wrong(self, 1, plan.goes_ahead, 0, thing, 1)
                refused_wrong(self, 2, plan.goes_ahead, 0, 1, thing)
                refused_wrong(self, 0, plan.goes_ahead, thing, thing, thing)
                refused_wrong(self, 1, plan.goes_ahead, 0, thing, thing)
            refused_wrong(self, 0, plan.goes_ahead, plan.rooms, 0, 1)
            refused_wrong(self, 0, plan.goes_ahead, plan.rooms, -1, -1)


if __name__ == "__main__":
    unittest.main()
