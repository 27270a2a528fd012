"""Points 11 to 14: housings, the room ahead, kept housings, faults."""

import unittest
from itertools import product

from homeward.faults import fault_of, room_ahead
from homeward.plans import Plan

from tests.helpers import MOST, NO_NUMBERS, Stranger, is_kept, ring_in_itself, walked_ahead, walked_far

RING = Plan(5, True, [])
LINE = Plan(5, False, [])


def slow_fault(plan, rooms):
    """Point 14 word by word: all words due at each room, then the first of them."""
    many, wraps, homes = plan.rooms, plan.wraps, plan.homes
    for room, thing in enumerate(rooms):
        if thing is None:
            continue
        if type(thing) is not int or thing < 0 or thing > MOST:
            return ("key", room)
        due = ["twice"] if thing in rooms[:room] else []
        far = walked_far(many, wraps, homes, thing, room)
        if far is None:
            due.append("home")
        elif far > 0:
            ahead = rooms[room - 1]
            if ahead is None:
                due.append("empty")
            elif type(ahead) is int and not walked_ahead(many, wraps, homes, (room - 1) % many, ahead, thing):
                due.append("order")
        if due:
            return (due[0], room)
    at_home = [room for room, key in enumerate(rooms)
               if key is not None and walked_far(many, wraps, homes, key, room) == 0]
    return ("turned", 0) if None not in rooms and not at_home else None


class KeptOnes(unittest.TestCase):
    def test_kept_housings_have_none(self):
        for plan, rooms in (
            (RING, [None, None, None, None, None]),
            (RING, [13, 4, None, 3, 8]),
            (RING, [0, 1, 2, 3, 4]),
            (RING, [13, None, None, 3, 8]),
            (RING, [None, None, None, None, 4]),
            (LINE, [None, None, None, None, None]),
            (LINE, [0, 5, 1, 3, 8]),
            (LINE, [None, None, None, None, 4]),
            (Plan(1, True, []), [9]), (Plan(1, False, []), [9]),
            (Plan(1, True, []), [None]), (Plan(1, False, []), [None]),
            (Plan(64, True, []), list(range(64))), (Plan(64, False, []), list(range(64))),
            (Plan(3, True, [(9, 1), (1, 2)]), [None, 9, 1]),
        ):
            self.assertIsNone(fault_of(plan, rooms), rooms)

    def test_the_room_ahead(self):
        self.assertEqual([room_ahead(RING, room) for room in range(5)], [4, 0, 1, 2, 3])
        self.assertEqual([room_ahead(LINE, room) for room in range(5)], [None, 0, 1, 2, 3])
        self.assertEqual(room_ahead(Plan(1, True, []), 0), 0)
        self.assertIsNone(room_ahead(Plan(1, False, []), 0))


class Lists(unittest.TestCase):
    def test_what_is_no_list(self):
        for plan in (RING, LINE, Plan(1, True, [])):
            for thing in (None, True, 0, 5, "abcde", "", (), (0, 1, 2, 3, 4), {}, {0: 0, 1: 1, 2: 2, 3: 3, 4: 4},
                          set(range(5)), frozenset(), range(5), b"abcde", object(), Stranger(), list, plan):
                self.assertEqual(fault_of(plan, thing), ("list", 0))

    def test_another_number_of_things(self):
        for plan in (RING, LINE):
            for many in (0, 1, 4, 6, 7, 100, 1000):
                self.assertEqual(fault_of(plan, [None] * many), ("list", 0))
                self.assertEqual(fault_of(plan, ["x"] * many), ("list", 0))
        self.assertEqual(fault_of(Plan(1, True, []), []), ("list", 0))
        self.assertEqual(fault_of(Plan(64, True, []), [None] * 65), ("list", 0))
        self.assertEqual(fault_of(Plan(64, True, []), [None] * 63), ("list", 0))


class Words(unittest.TestCase):
    def test_key(self):
        for plan in (RING, LINE):
            for thing in NO_NUMBERS:
                if thing is None:
                    continue
                for room in range(5):
                    rooms = [None] * 5
                    rooms[room] = thing
                    self.assertEqual(fault_of(plan, rooms), ("key", room))
                    self.assertEqual(fault_of(plan, [None] * room + [thing] * (5 - room)), ("key", room))

    def test_key_at_its_edges(self):
        self.assertIsNone(fault_of(Plan(1, True, []), [0]))
        self.assertIsNone(fault_of(Plan(1, True, []), [MOST]))
        self.assertEqual(fault_of(Plan(1, True, []), [MOST + 1]), ("key", 0))
        self.assertEqual(fault_of(Plan(1, True, []), [-1]), ("key", 0))

    def test_a_truth_is_no_key_and_no_twin_of_one(self):
        self.assertEqual(fault_of(RING, [0, 1, True, None, None]), ("key", 2))
        self.assertEqual(fault_of(RING, [False, 1, None, None, None]), ("key", 0))
        self.assertEqual(fault_of(RING, [None, True, 1, None, None]), ("key", 1))

    def test_key_in_a_list_that_holds_itself(self):
        rooms = [None, None, None, None]
        rooms.append(rooms)
        self.assertEqual(fault_of(RING, rooms), ("key", 4))
        self.assertEqual(fault_of(Plan(1, False, []), ring_in_itself()), ("key", 0))

    def test_twice(self):
        self.assertEqual(fault_of(RING, [0, 0, None, None, None]), ("twice", 1))
        self.assertEqual(fault_of(RING, [None, 1, None, 1, None]), ("twice", 3))
        self.assertEqual(fault_of(RING, [None, None, None, 3, 3]), ("twice", 4))
        self.assertEqual(fault_of(LINE, [None, None, None, 3, 3]), ("twice", 4))
        self.assertEqual(fault_of(LINE, [0, None, None, None, 0]), ("twice", 4))

    def test_home(self):
        self.assertEqual(fault_of(LINE, [1, None, None, None, None]), ("home", 0))
        self.assertEqual(fault_of(LINE, [4, None, None, None, 9]), ("home", 0))
        self.assertEqual(fault_of(LINE, [0, 1, 2, 4, 3]), ("home", 3))
        self.assertEqual(fault_of(LINE, [None, None, None, 4, None]), ("home", 3))
        last = Plan(2, False, [(5, 0), (6, 1)])
        self.assertIsNone(fault_of(last, [5, 6]))
        self.assertEqual(fault_of(last, [6, 5]), ("home", 0))

    def test_home_is_never_due_where_it_wraps(self):
        self.assertEqual(fault_of(RING, [1, None, None, None, None]), ("empty", 0))

    def test_empty(self):
        self.assertEqual(fault_of(RING, [4, None, None, None, None]), ("empty", 0))
        self.assertEqual(fault_of(RING, [None, 0, None, None, None]), ("empty", 1))
        self.assertEqual(fault_of(RING, [None, None, None, None, 3]), ("empty", 4))
        self.assertEqual(fault_of(LINE, [None, 0, None, None, None]), ("empty", 1))
        self.assertEqual(fault_of(LINE, [None, None, None, None, 0]), ("empty", 4))
        self.assertEqual(fault_of(LINE, [0, None, None, None, 5]), ("empty", 4))

    def test_order(self):
        self.assertEqual(fault_of(RING, [3, None, None, None, 4]), ("order", 0))
        self.assertEqual(fault_of(RING, [4, None, None, None, 9]), ("order", 0))
        self.assertEqual(fault_of(RING, [5, 0, None, None, None]), ("order", 1))
        self.assertEqual(fault_of(RING, [None, None, None, 8, 3]), ("order", 4))
        self.assertEqual(fault_of(RING, [None, None, 2, 3, 7]), ("order", 4))
        self.assertEqual(fault_of(LINE, [5, 0, None, None, None]), ("order", 1))
        self.assertEqual(fault_of(LINE, [None, None, None, 8, 3]), ("order", 4))

    def test_order_is_judged_in_the_room_ahead(self):
        # The key 1 is far 2 in room 0, where it stands, but at home in room 1, where the key 0 stands behind it.
        self.assertEqual(fault_of(Plan(3, True, []), [1, 0, 3]), ("turned", 0))
        self.assertEqual(fault_of(Plan(3, True, []), [1, 3, 0]), ("order", 2))

    def test_what_is_at_home_may_stand_behind_anything(self):
        self.assertIsNone(fault_of(RING, [0, 1, None, 3, None]))
        self.assertIsNone(fault_of(LINE, [0, 5, 2, None, 4]))

    def test_turned(self):
        self.assertEqual(fault_of(Plan(2, True, []), [1, 2]), ("turned", 0))
        self.assertEqual(fault_of(Plan(3, True, []), [1, 2, 0]), ("turned", 0))
        self.assertEqual(fault_of(RING, [3, 4, 0, 1, 2]), ("turned", 0))
        self.assertEqual(fault_of(Plan(64, True, []), [63] + list(range(63))), ("turned", 0))
        self.assertEqual(fault_of(Plan(64, True, []), list(range(1, 64)) + [0]), ("turned", 0))

    def test_one_empty_room_is_no_turning(self):
        self.assertEqual(fault_of(Plan(3, True, []), [1, 2, None]), ("empty", 0))
        self.assertIsNone(fault_of(Plan(3, True, []), [None, None, None]))


class FirstOfSeveral(unittest.TestCase):
    def test_list_comes_ahead_of_all(self):
        self.assertEqual(fault_of(RING, ["x", 0, 0]), ("list", 0))

    def test_the_first_room_comes_ahead(self):
        self.assertEqual(fault_of(RING, [4, "x", 4, 4, None]), ("empty", 0))
        self.assertEqual(fault_of(RING, [None, 0, "x", 0, None]), ("empty", 1))
        self.assertEqual(fault_of(LINE, [5, 0, 0, "x", 3]), ("order", 1))
        self.assertEqual(fault_of(LINE, [1, 1, "x", None, None]), ("home", 0))
        self.assertEqual(fault_of(LINE, [0, 0, 4, "x", None]), ("twice", 1))

    def test_twice_comes_ahead_of_home(self):
        plan = Plan(4, False, [(9, 1), (8, 3)])
        self.assertEqual(fault_of(plan, [None, 9, 9, None]), ("twice", 2))
        self.assertEqual(fault_of(plan, [8, None, 8, None]), ("home", 0))

    def test_twice_comes_ahead_of_empty_and_order(self):
        self.assertEqual(fault_of(RING, [0, None, 0, None, None]), ("twice", 2))
        self.assertEqual(fault_of(RING, [0, 1, 0, None, None]), ("twice", 2))
        self.assertEqual(fault_of(LINE, [0, None, 0, None, None]), ("twice", 2))

    def test_at_room_0_the_same_key_in_the_last_room_is_out_of_order(self):
        self.assertEqual(fault_of(RING, [4, None, None, None, 4]), ("order", 0))
        self.assertEqual(fault_of(RING, [0, None, None, None, 0]), ("twice", 4))

    def test_something_else_in_the_room_ahead(self):
        for thing in NO_NUMBERS:
            if thing is not None:
                self.assertEqual(fault_of(RING, [4, None, None, None, thing]), ("key", 4))
                self.assertEqual(fault_of(RING, [4, None, 1, None, thing]), ("empty", 2))

    def test_room_0_of_a_line_has_no_room_ahead(self):
        self.assertIsNone(fault_of(LINE, [0, None, None, None, None]))
        self.assertEqual(fault_of(LINE, [0, None, None, None, "x"]), ("key", 4))
        self.assertIsNone(fault_of(LINE, [0, None, None, None, 4]))


class AllOfThem(unittest.TestCase):
    def test_word_by_word(self):
        for many in (1, 2, 3, 4):
            for wraps in (True, False):
                for homes in ([], [(1, 0), (3, 2)], [(key, many - 1) for key in range(5)]):
                    plan = Plan(many, wraps, homes)
                    for things in product([None, 0, 1, 2, 3, 5, True, "x"], repeat=many):
                        rooms = list(things)
                        self.assertEqual(fault_of(plan, rooms), slow_fault(plan, rooms))
                        self.assertEqual(rooms, list(things))

    def test_none_just_where_it_is_kept(self):
        for many in (1, 2, 3, 4, 5):
            for wraps in (True, False):
                plan = Plan(many, wraps, [(2, 3)])
                for things in product([None, 0, 1, 2, 3, 6], repeat=many):
                    keys = [key for key in things if key is not None]
                    if len(set(keys)) < len(keys):
                        continue
                    housed = all(plan.far(key, room) is not None
                                 for room, key in enumerate(things) if key is not None)
                    kept = housed and is_kept(many, wraps, plan.homes, list(things))
                    self.assertEqual(fault_of(plan, list(things)) is None, kept, things)


class Told(unittest.TestCase):
    def test_a_tuple_of_a_text_and_a_room(self):
        for rooms in (None, [4, None, None, None, None], [3, 4, 0, 1, 2]):
            fault = fault_of(RING, rooms)
            self.assertIs(type(fault), tuple)
            self.assertEqual([type(thing) for thing in fault], [str, int])

    def test_what_is_handed_in_stays_as_it_was(self):
        for rooms in ([13, 4, None, 3, 8], [4, None, None, None, 4], [3, 4, 0, 1, 2], ["x", [1], None, None, 0], [1]):
            plan, before = Plan(5, True, [(9, 9)]), list(rooms)
            first = fault_of(plan, rooms)
            self.assertEqual(rooms, before)
            self.assertEqual((plan.rooms, plan.wraps, plan.homes), (5, True, [(9, 9)]))
            self.assertEqual(fault_of(plan, rooms), first)


if __name__ == "__main__":
    unittest.main()
