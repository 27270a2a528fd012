"""Points 1 to 7 over the whole program: the interface as it stands, one shape by whatever way, and the papers."""

import importlib
import inspect
import unittest

from homeward.desk import Desk
from homeward.fewest import fewest_rooms, is_fewest
from homeward.growing import row_sized
from homeward.housed import housed_rooms, is_crowd
from homeward.looks import is_gone, look_for
from homeward.pairs import common_row, deeds_between, joined_row, parts_at
from homeward.plans import Plan
from homeward.rows import Row
from homeward.spread import farthest, shows_far, window_of
from homeward.texts import read_row, show_row

from tests.helpers import MOST, large_rows, numbers_from, row_of, small_housings, told

# Of each module its functions with their arguments, and its classes: what each is made of and its methods.
FUNCTIONS = {
    "plans": {"is_number": ["thing"]},
    "faults": {"fault_of": ["plan", "rooms"]},
    "housed": {
        "housed_rooms": ["plan", "keys"], "is_crowd": ["plan", "keys", "room"], "passes_on": ["plan", "keys"],
    },
    "looks": {"look_for": ["row", "key"], "is_gone": ["plan", "key", "seen"], "most_seen": ["row"]},
    "spread": {
        "fars_of": ["row"], "farthest": ["row"], "far_sum": ["row"],
        "shows_far": ["plan", "keys", "far", "window"], "window_of": ["row", "key"],
    },
    "growing": {"row_sized": ["row", "rooms"]},
    "fewest": {
        "fewest_rooms": ["keys", "homes", "wraps", "most"], "is_fewest": ["keys", "homes", "wraps", "most", "told"],
    },
    "pairs": {
        name: ["one", "other"] for name in ("parts_at", "only_in", "common_row", "joined_row", "deeds_between")
    },
    "texts": {"show_row": ["row"], "read_row": ["text"]},
}
CLASSES = {
    ("errors", "Wrong"): (["at"], {}), ("errors", "NoRoom"): (["room"], {}), ("errors", "There"): (["key"], {}),
    ("errors", "NotThere"): (["key"], {}), ("errors", "Unkept"): (["word", "room"], {}),
    ("errors", "NoText"): (["at"], {}), ("errors", "TooMany"): (["most"], {}),
    ("plans", "Plan"): (
        ["rooms", "wraps", "homes"], {"home": ["key"], "far": ["key", "room"], "goes_ahead": ["room", "one", "other"]}),
    ("rows", "Row"): (["plan", "rooms"], {
        "rooms_held": [], "keys_held": [], "many": [], "room_of": ["key"], "put": ["key"], "take": ["key"], "undo": [],
        "deeds": [], "copied": []}),
    ("growing", "Growing"): (
        ["homes"], {"put": ["key"], "take": ["key"], "rooms_now": [], "row_now": [], "anew": []}),
    ("desk", "Desk"): ([], {"say": ["text"]}),
}


def module(name):
    return importlib.import_module("homeward." + name)


def arguments_of(call):
    return list(inspect.signature(call).parameters)


class Interface(unittest.TestCase):
    def test_functions(self):
        for name, functions in FUNCTIONS.items():
            for function, arguments in functions.items():
                self.assertEqual(arguments_of(getattr(module(name), function)), arguments, function)

    def test_classes(self):
        for (name, kind), (made_of, methods) in CLASSES.items():
            found = getattr(module(name), kind)
            self.assertTrue(inspect.isclass(found))
            self.assertEqual(arguments_of(found), made_of, kind)
            for method, arguments in methods.items():
                self.assertEqual(arguments_of(getattr(found, method)), ["self"] + arguments, method)

    def test_the_refusals_made_of_nothing(self):
        for name in ("Unlike", "NoRow", "NoPlan"):
            self.assertEqual(vars(getattr(module("errors"), name)()), {})

    def test_a_last_argument_that_may_be_left_out(self):
        plan = Plan(2, True, [])
        self.assertEqual(Row(plan).rooms_held(), Row(plan, None).rooms_held())
        self.assertEqual(Row(plan, rooms=[0, None]).rooms_held(), [0, None])

    def test_fields(self):
        plan = Plan(2, True, [(1, 0)])
        self.assertEqual((plan.rooms, plan.wraps, plan.homes), (2, True, [(1, 0)]))
        self.assertIs(Row(plan).plan, plan)


class OneShape(unittest.TestCase):
    """By whatever way one comes to some keys, the housing is the same."""

    def ways_to(self, plan, keys):
        there_and_back = row_of(plan, keys)
        for key in keys[::2]:
            there_and_back.take(key)
        for key in keys[::2]:
            there_and_back.put(key)
        half, rest = row_of(plan, keys[1::2]), row_of(plan, keys[::2])
        led = half.copied()
        for word, key in deeds_between(half, there_and_back):
            (led.put if word == "put" else led.take)(key)
        wide = row_of(Plan(64, plan.wraps, plan.homes), keys)
        return [
            row_of(plan, keys[::-1]), there_and_back, led, joined_row(half, rest), joined_row(rest, half),
            common_row(there_and_back, there_and_back), row_sized(there_and_back, plan.rooms),
            read_row(show_row(there_and_back)), Row(plan, housed_rooms(plan, keys)), there_and_back.copied(),
            row_sized(wide, plan.rooms),
        ]

    def told_at_a_desk(self, plan, keys):
        desk = Desk()
        desk.say(f"rooms {plan.rooms} " + ("wraps" if plan.wraps else "line"))
        for key, number in plan.homes[::2]:
            desk.say(f"home {key} {number}")
        late = [f"home {key} {number}" for key, number in plan.homes[1::2]]
        for row in late + [f"put {key}" for key in keys]:
            desk.say(row)
        return read_row(desk.say("text"))

    def test_small_ones(self):
        for plan, keys, housing in small_housings()[::3]:
            for row in self.ways_to(plan, keys) + [self.told_at_a_desk(plan, keys)]:
                self.assertEqual(row.rooms_held(), housing)

    def test_large_ones(self):
        for row in large_rows()[::4]:
            # On a line those that fit may not fit into more rooms.
            if row.plan.wraps or row.plan.rooms == 64:
                for other in self.ways_to(row.plan, row.keys_held()):
                    self.assertEqual(other.rooms_held(), row.rooms_held())
                    self.assertIsNone(parts_at(row, other))
            self.assertEqual(self.told_at_a_desk(row.plan, row.keys_held()).rooms_held(), row.rooms_held())

    def test_alike_just_where_they_have_the_same_keys(self):
        for plan in (Plan(9, True, [(4, 2)]), Plan(9, False, [(4, 2)])):
            rows = [row_of(plan, [3, 4, 5, 12][:many]) for many in range(5)] + [row_of(plan, [12, 5, 4, 3])]
            for one in rows:
                for other in rows:
                    same = sorted(one.keys_held()) == sorted(other.keys_held())
                    self.assertEqual(one.rooms_held() == other.rooms_held(), same)
                    self.assertEqual(parts_at(one, other) is None, same)
                    self.assertEqual(show_row(one) == show_row(other), same)


class Papers(unittest.TestCase):
    def test_that_keys_do_not_fit(self):
        for wraps in (True, False):
            for keys in ([4, 9, 14], [0, 1, 2, 3, 4, 5], list(range(100)), [3, 8, 4]):
                plan = Plan(5, wraps, [])
                answer = told(housed_rooms, plan, keys)
                if answer[0] == "NoRoom":
                    self.assertIs(is_crowd(plan, keys, answer[1]["room"]), True)

    def test_that_a_key_is_not_there(self):
        for row in large_rows()[::3]:
            for key in numbers_from(7, 10, 400) + [MOST]:
                room, seen = look_for(row, key)
                self.assertEqual(is_gone(row.plan, key, seen), row.room_of(key) is None)

    def test_that_a_key_is_as_far_as_it_must_be(self):
        for row in large_rows()[::3]:
            best = farthest(row)
            if best is not None:
                window = window_of(row, best[1])
                self.assertIs(shows_far(row.plan, row.keys_held(), best[0], window), True)

    def test_that_fewer_rooms_will_not_do(self):
        for row in large_rows()[::6]:
            case = (row.keys_held(), row.plan.homes, row.plan.wraps, 2)
            self.assertIs(is_fewest(*case, fewest_rooms(*case)), True)


if __name__ == "__main__":
    unittest.main()
