"""Points 3, 4, 7 and 23 to 25: looks, papers that a key isn't there, how many rooms a look sees at most."""

import unittest
from itertools import product

from homeward.looks import is_gone, look_for, most_seen
from homeward.plans import Plan
from homeward.rows import Row

from tests.helpers import (
    MOST, NO_NUMBERS, NO_ROWS, Stranger, large_rows, refused_wrong, ring_in_itself, small_housings, small_plans,
    walked_ahead, walked_far, walked_look, walked_way,
)

RING = Plan(5, True, [])
LINE = Plan(5, False, [])
EXAMPLE = Row(RING, [13, 4, None, 3, 8])
SOME_KEYS = [0, 1, 2, 3, 4, 5, 8, 9, 13, MOST]


def walked_gone(plan, key, seen):
    """Point 24 word by word, of a list of tuples (whole number, key or None)."""
    way = walked_way(plan, key)
    if not seen or [room for room, held in seen] != way[:len(seen)]:
        return False

    def ahead(room, one, other):
        return walked_ahead(plan.rooms, plan.wraps, plan.homes, room, one, other)

    for room, held in seen[:-1]:
        if held is None or not ahead(room, held, key):
            return False
    room, held = seen[-1]
    if held is None or (held != key and ahead(room, key, held)):
        return True
    return (room == way[-1]) and ahead(room, held, key)


class Looks(unittest.TestCase):
    def test_that_stop_at_the_key(self):
        self.assertEqual(look_for(EXAMPLE, 3), (3, [(3, 3)]))
        self.assertEqual(look_for(EXAMPLE, 8), (4, [(3, 3), (4, 8)]))
        self.assertEqual(look_for(EXAMPLE, 13), (0, [(3, 3), (4, 8), (0, 13)]))
        self.assertEqual(look_for(EXAMPLE, 4), (1, [(4, 8), (0, 13), (1, 4)]))

    def test_that_stop_at_an_empty_room(self):
        self.assertEqual(look_for(EXAMPLE, 2), (None, [(2, None)]))
        self.assertEqual(look_for(EXAMPLE, 0), (None, [(0, 13), (1, 4), (2, None)]))
        self.assertEqual(look_for(EXAMPLE, 9), (None, [(4, 8), (0, 13), (1, 4), (2, None)]))

    def test_that_stop_at_a_key_that_it_goes_ahead_of(self):
        self.assertEqual(look_for(EXAMPLE, 18), (None, [(3, 3), (4, 8), (0, 13), (1, 4)]))
        self.assertEqual(look_for(Row(RING, [None, None, None, 8, None]), 3), (None, [(3, 8)]))
        self.assertEqual(look_for(Row(LINE, [0, 1, None, None, None]), 5), (None, [(0, 0), (1, 1)]))

    def test_that_stop_at_the_last_room_of_a_line(self):
        row = Row(LINE, [None, None, None, 3, 8])
        self.assertEqual(look_for(row, 4), (None, [(4, 8)]))
        self.assertEqual(look_for(row, 13), (None, [(3, 3), (4, 8)]))
        self.assertEqual(look_for(row, 8), (4, [(3, 3), (4, 8)]))
        self.assertEqual(look_for(Row(LINE, [0, 5, 10, 15, 20]), 25),
                         (None, [(0, 0), (1, 5), (2, 10), (3, 15), (4, 20)]))

    def test_that_stop_where_all_rooms_were_seen(self):
        row = Row(Plan(4, True, []), [7, 11, 15, 3])
        self.assertEqual(look_for(row, 19), (None, [(3, 3), (0, 7), (1, 11), (2, 15)]))
        self.assertEqual(look_for(row, 15), (2, [(3, 3), (0, 7), (1, 11), (2, 15)]))

    def test_an_empty_row_and_one_room(self):
        for wraps in (True, False):
            self.assertEqual(look_for(Row(Plan(5, wraps, [])), 8), (None, [(3, None)]))
            self.assertEqual(look_for(Row(Plan(1, wraps, [])), 8), (None, [(0, None)]))
            self.assertEqual(look_for(Row(Plan(1, wraps, []), [8]), 8), (0, [(0, 8)]))
            self.assertEqual(look_for(Row(Plan(1, wraps, []), [8]), 9), (None, [(0, 8)]))
            self.assertEqual(look_for(Row(Plan(1, wraps, []), [8]), 7), (None, [(0, 8)]))

    def test_the_key_0_is_no_empty_room(self):
        row = Row(RING, [0, None, None, None, None])
        self.assertEqual(look_for(row, 0), (0, [(0, 0)]))
        self.assertEqual(look_for(row, 5), (None, [(0, 0), (1, None)]))

    def test_homes_told(self):
        row = Row(Plan(4, True, [(9, 3), (5, 3)]), [9, None, None, 5])
        self.assertEqual(look_for(row, 9), (0, [(3, 5), (0, 9)]))
        self.assertEqual(look_for(row, 3), (None, [(3, 5)]))

    def test_word_by_word(self):
        for plan, keys, housing in small_housings():
            row = Row(plan, housing)
            for key in SOME_KEYS:
                room, seen = look_for(row, key)
                self.assertEqual((room, seen), walked_look(plan, housing, key))
                self.assertEqual(room, housing.index(key) if key in keys else None)

    def test_large_ones_word_by_word(self):
        for row in large_rows():
            for key in list(range(0, 120, 7)) + row.keys_held() + [MOST]:
                answer = look_for(row, key)
                self.assertEqual(answer, walked_look(row.plan, row.rooms_held(), key))
                self.assertEqual(answer[0], row.room_of(key))

    def test_told_is_a_tuple_with_a_new_list_of_tuples(self):
        answer = look_for(EXAMPLE, 8)
        self.assertEqual([type(answer), type(answer[1]), type(answer[1][0])], [tuple, list, tuple])
        answer[1].clear()
        self.assertEqual(look_for(EXAMPLE, 8), (4, [(3, 3), (4, 8)]))

    def test_a_look_changes_nothing(self):
        row = Row(RING)
        row.put(3)
        for key in SOME_KEYS:
            look_for(row, key)
        self.assertEqual((row.rooms_held(), row.deeds()), ([None, None, None, 3, None], [("put", 3)]))

    def test_wrong(self):
        for row in NO_ROWS:
            refused_wrong(self, 0, look_for, row, 3)
            refused_wrong(self, 0, look_for, row, None)
        for key in NO_NUMBERS:
            refused_wrong(self, 1, look_for, EXAMPLE, key)
            refused_wrong(self, 1, look_for, Row(LINE), key)


class Papers(unittest.TestCase):
    def test_that_end_at_an_empty_room(self):
        self.assertIs(is_gone(RING, 2, [(2, None)]), True)
        self.assertIs(is_gone(RING, 0, [(0, 13), (1, 4), (2, None)]), True)
        self.assertIs(is_gone(RING, 9, [(4, 8), (0, 13), (1, None)]), True)
        self.assertIs(is_gone(LINE, 3, [(3, 7), (4, None)]), True)
        self.assertIs(is_gone(LINE, 4, [(4, None)]), True)

    def test_that_end_at_a_key_that_it_goes_ahead_of(self):
        self.assertIs(is_gone(RING, 3, [(3, 8)]), True)
        self.assertIs(is_gone(RING, 18, [(3, 3), (4, 8), (0, 13), (1, 4)]), True)
        self.assertIs(is_gone(RING, 8, [(3, 3)]), False)
        self.assertIs(is_gone(LINE, 5, [(0, 0), (1, 1)]), True)

    def test_that_end_at_a_key_that_cannot_come_there(self):
        self.assertIs(is_gone(LINE, 3, [(3, 4)]), True)
        self.assertIs(is_gone(LINE, 3, [(3, 4), (4, None)]), False)

    def test_that_end_at_the_last_room_of_a_line(self):
        self.assertIs(is_gone(LINE, 13, [(3, 3), (4, 8)]), True)
        self.assertIs(is_gone(LINE, 4, [(4, 8)]), True)
        self.assertIs(is_gone(LINE, 13, [(3, 3)]), False)
        self.assertIs(is_gone(RING, 13, [(3, 3), (4, 8)]), False)
        self.assertIs(is_gone(RING, 4, [(4, 8)]), False)

    def test_that_end_where_all_rooms_were_seen(self):
        ring = Plan(4, True, [])
        seen = [(3, 3), (0, 7), (1, 11), (2, 15)]
        self.assertIs(is_gone(ring, 19, seen), True)
        for many in range(4):
            self.assertIs(is_gone(ring, 19, seen[:many]), False)
        self.assertIs(is_gone(ring, 19, seen + [(3, 3)]), False)
        self.assertIs(is_gone(ring, 19, seen + [(3, None)]), False)
        self.assertIs(is_gone(ring, 15, seen), False)

    def test_one_room(self):
        for wraps in (True, False):
            plan = Plan(1, wraps, [])
            self.assertIs(is_gone(plan, 5, [(0, None)]), True)
            self.assertIs(is_gone(plan, 5, [(0, 4)]), True)
            self.assertIs(is_gone(plan, 5, [(0, 6)]), True)
            self.assertIs(is_gone(plan, 5, [(0, 5)]), False)
            self.assertIs(is_gone(plan, 5, [(0, 4), (0, None)]), False)
            self.assertIs(is_gone(plan, 5, []), False)

    def test_the_key_itself_may_stand_nowhere(self):
        for plan in (RING, LINE):
            self.assertIs(is_gone(plan, 3, [(3, 3)]), False)
            self.assertIs(is_gone(plan, 8, [(3, 3), (4, 8)]), False)
            self.assertIs(is_gone(plan, 8, [(3, 8), (4, None)]), False)

    def test_one_key_told_of_two_rooms(self):
        self.assertIs(is_gone(RING, 13, [(3, 3), (4, 3), (0, None)]), True)
        self.assertIs(is_gone(RING, 13, [(3, 3), (4, 3), (0, 3), (1, 3), (2, 3)]), True)
        self.assertIs(is_gone(LINE, 13, [(3, 3), (4, 3)]), True)

    def test_it_begins_at_home_and_leaves_none_out(self):
        self.assertIs(is_gone(RING, 0, [(1, 4), (2, None)]), False)
        self.assertIs(is_gone(RING, 0, [(4, 8), (0, 13), (1, 4), (2, None)]), False)
        self.assertIs(is_gone(RING, 0, [(0, 13), (2, None)]), False)
        self.assertIs(is_gone(RING, 0, [(0, 13), (0, 13), (1, None)]), False)
        self.assertIs(is_gone(RING, 0, [(1, 13), (0, None)]), False)
        self.assertIs(is_gone(LINE, 3, [(3, 1), (4, 1), (0, None)]), False)
        self.assertIs(is_gone(LINE, 3, [(3, 1), (4, 1), (5, None)]), False)
        self.assertIs(is_gone(RING, 3, [(3, 1), (4, 1), (5, None)]), False)
        self.assertIs(is_gone(RING, 3, [(3, 1), (4, 1), (0, None)]), True)

    def test_each_but_the_last_one_holds_a_key_that_goes_ahead(self):
        self.assertIs(is_gone(RING, 0, [(0, None), (1, 4), (2, None)]), False)
        self.assertIs(is_gone(RING, 0, [(0, 13), (1, None), (2, None)]), False)
        self.assertIs(is_gone(RING, 0, [(0, 5), (1, 4), (2, None)]), False)
        self.assertIs(is_gone(RING, 0, [(0, 13), (1, 1), (2, None)]), False)

    def test_homes_told(self):
        plan = Plan(4, True, [(9, 3), (5, 3), (0, 3)])
        self.assertIs(is_gone(plan, 9, [(3, 5), (0, None)]), True)
        self.assertIs(is_gone(plan, 9, [(1, 5), (2, None)]), False)
        self.assertIs(is_gone(plan, 9, [(3, 0), (0, 0), (1, 8)]), True)
        self.assertIs(is_gone(plan, 9, [(3, 0), (0, 0), (1, 10)]), False)

    def test_a_look_for_a_key_that_is_not_there_sees_one(self):
        for plan, keys, housing in small_housings():
            row = Row(plan, housing)
            for key in SOME_KEYS:
                room, seen = look_for(row, key)
                self.assertIs(is_gone(plan, key, seen), key not in keys)
        for row in large_rows():
            for key in range(0, 300, 11):
                self.assertIs(is_gone(row.plan, key, look_for(row, key)[1]), row.room_of(key) is None)

    def test_a_key_that_is_there_has_none(self):
        for plan, keys, housing in small_housings():
            for key in keys:
                seen = [(room, housing[room]) for room in walked_way(plan, key)]
                for many in range(len(seen) + 1):
                    self.assertIs(is_gone(plan, key, seen[:many]), False)

    def test_word_by_word(self):
        for plan in small_plans():
            if plan.rooms > 3:
                continue
            sights = list(product(range(plan.rooms + 1), [None, 0, 1, 4, 5, 9]))
            for many in range(3):
                for seen in product(sights, repeat=many):
                    for key in (0, 4, 5):
                        self.assertIs(is_gone(plan, key, list(seen)), walked_gone(plan, key, list(seen)))

    def test_all_that_go_the_right_way_word_by_word(self):
        for plan in small_plans():
            for key in (0, 1, 8):
                way = walked_way(plan, key)
                for many in range(len(way) + 1):
                    for helds in product([None, 0, 1, 4, 5, 9], repeat=min(many, 4)):
                        seen = list(zip(way[:many], (0,) * (many - len(helds)) + helds))
                        self.assertIs(is_gone(plan, key, seen), walked_gone(plan, key, seen))


class Spoilt(unittest.TestCase):
    PAPERS = [
        (RING, 9, [(4, 8), (0, 13), (1, 4), (2, None)]), (RING, 18, [(3, 3), (4, 8), (0, 13), (1, 4)]),
        (LINE, 13, [(3, 3), (4, 8)]), (Plan(4, True, []), 19, [(3, 3), (0, 7), (1, 11), (2, 15)]),
        (RING, 2, [(2, None)]),
    ]

    def test_they_are_right_as_they_stand(self):
        for plan, key, seen in self.PAPERS:
            self.assertIs(is_gone(plan, key, seen), True)

    def test_another_room(self):
        for plan, key, seen in self.PAPERS:
            for at in range(len(seen)):
                for room in NO_NUMBERS + [plan.rooms, 99] + [room for room in range(plan.rooms) if room != seen[at][0]]:
                    spoilt = list(seen)
                    spoilt[at] = (room, seen[at][1])
                    self.assertIs(is_gone(plan, key, spoilt), False)

    def test_rooms_told_as_truths(self):
        self.assertIs(is_gone(RING, 9, [(4, 8), (0, 13), (1, 4), (2, None)]), True)
        self.assertIs(is_gone(RING, 9, [(4, 8), (False, 13), (1, 4), (2, None)]), False)
        self.assertIs(is_gone(RING, 9, [(4, 8), (0, 13), (True, 4), (2, None)]), False)
        self.assertIs(is_gone(RING, 9, [(4, 8), (-5, 13), (1, 4), (2, None)]), False)

    def test_something_that_is_no_key(self):
        for plan, key, seen in self.PAPERS:
            for at in range(len(seen)):
                for thing in NO_NUMBERS:
                    if thing is not None:
                        spoilt = list(seen)
                        spoilt[at] = (seen[at][0], thing)
                        self.assertIs(is_gone(plan, key, spoilt), False)

    def test_another_key(self):
        for plan, key, seen in self.PAPERS:
            for at in range(len(seen)):
                for held in [None, key, 0, 1, 2, 3, 4, 5, MOST]:
                    spoilt = list(seen)
                    spoilt[at] = (seen[at][0], held)
                    self.assertIs(is_gone(plan, key, spoilt), walked_gone(plan, key, spoilt))
                    if held is None and at < len(seen) - 1 or held == key:
                        self.assertIs(is_gone(plan, key, spoilt), False)

    def test_no_tuple_of_two(self):
        for plan, key, seen in self.PAPERS:
            for at in range(len(seen)):
                room, held = seen[at]
                for thing in ([room, held], (room,), (), (room, held, held), ((room, held),), {room: held}, room, held,
                              None, "ab", Stranger(), ring_in_itself(), object()):
                    spoilt = list(seen)
                    spoilt[at] = thing
                    self.assertIs(is_gone(plan, key, spoilt), False)

    def test_one_left_out_or_told_twice(self):
        for plan, key, seen in self.PAPERS:
            for at in range(len(seen)):
                self.assertIs(is_gone(plan, key, seen[:at] + seen[at + 1:]), False)
                self.assertIs(is_gone(plan, key, seen[:at] + [seen[at]] + seen[at:]), False)
            self.assertIs(is_gone(plan, key, seen + seen), False)
            if len(seen) > 1:
                self.assertIs(is_gone(plan, key, list(reversed(seen))), False)

    def test_no_papers_at_all(self):
        for plan in (RING, LINE, Plan(1, True, [])):
            for thing in NO_NUMBERS + NO_ROWS + [((3, None),), {3: None}, {(3, None)}, (3, None), "3 -", EXAMPLE]:
                self.assertIs(is_gone(plan, 3, thing), False)
            self.assertIs(is_gone(plan, 3, [[]]), False)
            self.assertIs(is_gone(plan, 3, [(plan.home(3), None)] * 1000), False)

    def test_what_is_handed_in_stays_as_it_was(self):
        for plan, key, seen in self.PAPERS:
            before = list(seen)
            is_gone(plan, key, seen)
            self.assertEqual(seen, before)


class MostSeen(unittest.TestCase):
    def test_an_empty_row(self):
        for rooms in (1, 2, 5, 64):
            for wraps in (True, False):
                self.assertEqual(most_seen(Row(Plan(rooms, wraps, []))), 1)

    def test_by_the_farthest_key(self):
        self.assertEqual(most_seen(EXAMPLE), 4)
        self.assertEqual(most_seen(Row(RING, [None, None, None, 3, None])), 2)
        self.assertEqual(most_seen(Row(LINE, [0, 5, None, None, None])), 3)
        self.assertEqual(most_seen(Row(Plan(64, True, []), list(range(64)))), 2)

    def test_by_the_rooms(self):
        self.assertEqual(most_seen(Row(Plan(4, True, []), [7, 11, 15, 3])), 4)
        self.assertEqual(most_seen(Row(Plan(4, False, []), [0, 4, 8, None])), 4)
        self.assertEqual(most_seen(Row(Plan(4, False, []), [0, 4, 8, 12])), 4)
        self.assertEqual(most_seen(Row(Plan(3, True, []), [0, 3, None])), 3)
        self.assertEqual(most_seen(Row(Plan(1, True, []), [7])), 1)
        self.assertEqual(most_seen(Row(Plan(1, False, []), [7])), 1)

    def bounds_hold(self, row, keys):
        plan = row.plan
        fars = [walked_far(plan.rooms, plan.wraps, plan.homes, key, row.room_of(key)) for key in row.keys_held()]
        most = min(plan.rooms, max(fars) + 2) if fars else 1
        self.assertEqual(most_seen(row), most)
        for key in keys:
            room, seen = look_for(row, key)
            self.assertLessEqual(len(seen), most)
            self.assertEqual(len({place for place, held in seen}), len(seen))
            if room is not None:
                self.assertEqual(len(seen), walked_far(plan.rooms, plan.wraps, plan.homes, key, room) + 1)

    def test_no_look_sees_more(self):
        for plan, keys, housing in small_housings():
            self.bounds_hold(Row(plan, housing), SOME_KEYS)
        for row in large_rows():
            self.bounds_hold(row, list(range(0, 200, 9)) + row.keys_held())

    def test_it_changes_nothing(self):
        row = Row(RING, [13, 4, None, 3, 8])
        most_seen(row)
        self.assertEqual((row.rooms_held(), row.deeds()), ([13, 4, None, 3, 8], []))


if __name__ == "__main__":
    unittest.main()
