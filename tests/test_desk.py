"""Points 2 to 4 and 45 to 48: the desk's rows, its answers, its refusals and their order."""

import unittest

from homeward.desk import Desk
from homeward.errors import NoPlan, NoRoom, NoRow, NotThere, There, TooMany
from homeward.fewest import fewest_rooms
from homeward.plans import Plan
from homeward.texts import read_row

from tests.helpers import (
    MOST, NO_FIGURES, NO_NUMBERS, NO_PLANS, NO_ROWS, crowd_rooms, fars_in, first_that_does, is_figures, most_shown,
    numbers_from, row_of, told, walked_far, walked_look, walked_put, walked_take,
)

# Each sort of row but the first: what stands in it behind its first word, by the bounds of its numbers.
SORTS = {
    "home": [(0, MOST), (0, MOST)], "size": [(1, 64)], "put": [(0, MOST)], "take": [(0, MOST)], "look": [(0, MOST)],
    "far": [], "all": [], "window": [(0, MOST)], "text": [], "keys": [], "undo": [], "fewest": [(0, 100)],
}
RIGHT_ROWS = [
    "home 3 1", "size 4", "put 3", "take 3", "look 3", "far", "all", "window 3", "text", "keys", "undo", "fewest 0",
]
ASKING = ["look 3", "look 18", "far", "all", "window 3", "text", "keys", "fewest 0", "fewest 100"]
EXAMPLE = ["rooms 5 wraps", "put 3", "put 8", "put 4", "put 13"]


def is_row_told(text):
    """Whether a text is one of the rows of 45 to 48, by its words."""
    words = text.split(" ")
    if words[0] == "rooms":
        return len(words) == 3 and words[2] in ("wraps", "line") and is_within(words[1], 1, 64)
    bounds = SORTS.get(words[0])
    if bounds is None or len(words) != len(bounds) + 1:
        return False
    return all(is_within(word, least, most) for word, (least, most) in zip(words[1:], bounds))


def is_within(word, least, most):
    return is_figures(word, str(most)) and int(word) >= least


def held_words(held):
    return " ".join("-" if key is None else str(key) for key in held)


class Model:
    """Points 45 to 48 said a second time, as helpers.told tells it.

    In the place of NoRoom's room stand all that would do, in the place of a window how far it must show.
    """

    def __init__(self):
        self.plan, self.housing, self.past = None, None, []

    def say(self, text):
        if not isinstance(text, str) or not is_row_told(text):
            return ("NoRow", {})
        words = text.split(" ")
        if words[0] == "rooms":
            self.plan = Plan(int(words[1]), words[2] == "wraps", [])
            self.housing, self.past = [None] * self.plan.rooms, []
            return ("told", "ok")
        if self.plan is None:
            return ("NoPlan", {})
        return getattr(self, "say_" + words[0])(*[int(word) for word in words[1:]])

    def keys(self):
        return [key for key in self.housing if key is not None]

    def house(self, plan):
        if crowd_rooms(plan, self.keys()):
            return ("NoRoom", crowd_rooms(plan, self.keys()))
        housing = [None] * plan.rooms
        for key in self.keys():
            came, housing = walked_put(plan, housing, key)
        self.plan, self.housing, self.past = plan, housing, []
        return ("told", "ok")

    def say_home(self, key, number):
        homes = list(self.plan.homes)
        told_ahead = [one for one, other in homes]
        if key in told_ahead:
            homes[told_ahead.index(key)] = (key, number)
        elif len(homes) == 64:
            return ("TooMany", {"most": 64})
        else:
            homes.append((key, number))
        return self.house(Plan(self.plan.rooms, self.plan.wraps, homes))

    def say_size(self, rooms):
        return self.house(Plan(rooms, self.plan.wraps, self.plan.homes))

    def say_put(self, key):
        if key in self.housing:
            return ("There", {"key": key})
        if crowd_rooms(self.plan, self.keys() + [key]):
            return ("NoRoom", crowd_rooms(self.plan, self.keys() + [key]))
        self.past.append(self.housing)
        came, self.housing = walked_put(self.plan, self.housing, key)
        return ("told", ", ".join(f"{one} {room}" for one, room in came))

    def say_take(self, key):
        if key not in self.housing:
            return ("NotThere", {"key": key})
        self.past.append(self.housing)
        room, came, self.housing = walked_take(self.plan, self.housing, key)
        return ("told", str(room) + "".join(f" back {one} {to}" for one, to in came))

    def say_undo(self):
        if not self.past:
            return ("told", "no")
        self.housing = self.past.pop()
        return ("told", "yes")

    def say_look(self, key):
        room, seen = walked_look(self.plan, self.housing, key)
        found = "gone" if room is None else f"there {room}"
        return ("told", f"{found} sees " + held_words(held for place, held in seen))

    def say_far(self):
        fars = fars_in(self.plan, self.housing)
        if not fars:
            return ("told", "none")
        key = self.keys()[fars.index(max(fars))]
        return ("told", f"{max(fars)} {key} {self.housing.index(key)}")

    def say_all(self):
        return ("told", str(sum(fars_in(self.plan, self.housing))))

    def say_window(self, key):
        if key not in self.housing:
            return ("NotThere", {"key": key})
        plan = self.plan
        return ("window", walked_far(plan.rooms, plan.wraps, plan.homes, key, self.housing.index(key)))

    def say_text(self):
        rows = [f"rooms {self.plan.rooms} " + ("wraps" if self.plan.wraps else "line")]
        rows += [f"home {key} {number}" for key, number in self.plan.homes]
        return ("told", "\n".join(rows + ["row " + held_words(self.housing)]))

    def say_keys(self):
        return ("told", held_words(self.keys()) or "none")

    def say_fewest(self, most):
        rooms = first_that_does(self.keys(), self.plan.homes, self.plan.wraps, most)
        return ("told", "none" if rooms is None else str(rooms))


class Both:
    """A desk and a model of it, told the same rows."""

    def __init__(self, test):
        self.test, self.desk, self.model = test, Desk(), Model()

    def say(self, text):
        answer, due = told(self.desk.say, text), self.model.say(text)
        if due[0] == "NoRoom":
            self.test.assertEqual(answer[0], "NoRoom")
            self.test.assertIn(answer[1]["room"], due[1])
        elif due[0] == "window":
            first, last = answer[1].split(" ")
            self.test.assertTrue(is_row_told(f"home {first} {last}"))
            self.test.assertTrue(max(int(first), int(last)) < self.model.plan.rooms)
            self.test.assertTrue(self.model.plan.wraps or int(first) <= int(last))
            self.test.assertGreaterEqual(
                most_shown(self.model.plan, self.model.keys(), (int(first), int(last))), due[1])
        else:
            self.test.assertEqual(answer, due, text)
        if answer[0] == "told":
            self.test.assertIs(type(answer[1]), str)
        return answer


def desk_told(rows):
    desk = Desk()
    for row in rows:
        desk.say(row)
    return desk


def refused(test, kind, fields, desk, text):
    with test.assertRaises(kind) as caught:
        desk.say(text)
    test.assertIs(type(caught.exception), kind)
    test.assertEqual(vars(caught.exception), fields)


def undone(desk):
    """All texts from now on back, by undoing as long as there is something to undo: all that a desk keeps."""
    texts = [desk.say("text")]
    while desk.say("undo") == "yes":
        texts.append(desk.say("text"))
    return texts


class Answers(unittest.TestCase):
    def test_the_example(self):
        desk = Desk()
        self.assertEqual([desk.say(row) for row in EXAMPLE], ["ok", "3 3", "8 4", "4 0", "13 0, 4 1"])
        self.assertEqual(desk.say("text"), "rooms 5 wraps\nrow 13 4 - 3 8")
        self.assertEqual(desk.say("keys"), "13 4 3 8")
        self.assertEqual(desk.say("look 8"), "there 4 sees 3 8")
        self.assertEqual(desk.say("look 3"), "there 3 sees 3")
        self.assertEqual(desk.say("look 13"), "there 0 sees 3 8 13")
        self.assertEqual(desk.say("look 18"), "gone sees 3 8 13 4")
        self.assertEqual(desk.say("look 0"), "gone sees 13 4 -")
        self.assertEqual(desk.say("look 2"), "gone sees -")
        self.assertEqual(desk.say("far"), "2 13 0")
        self.assertEqual(desk.say("all"), "5")
        self.assertEqual(desk.say("window 13"), "3 3")
        self.assertEqual([desk.say(f"fewest {most}") for most in (0, 1, 2, 100)], ["6", "4", "4", "4"])
        self.assertEqual(desk.say("take 8"), "4 back 13 4 back 4 0")
        self.assertEqual(desk.say("take 3"), "3 back 13 3 back 4 4")
        self.assertEqual(desk.say("take 4"), "4")
        self.assertEqual(desk.say("text"), "rooms 5 wraps\nrow - - - 13 -")

    def test_an_empty_row(self):
        for first in ("rooms 1 wraps", "rooms 1 line", "rooms 64 wraps", "rooms 64 line"):
            desk = desk_told([first])
            self.assertEqual(
                [desk.say(row) for row in ("far", "all", "keys", "undo", "fewest 0", "fewest 100", "look 0")],
                ["none", "0", "none", "no", "1", "1", "gone sees -"])
            self.assertEqual(desk.say("text"), first + "\nrow" + " -" * int(first.split(" ")[1]))

    def test_rooms_anew(self):
        desk = desk_told(EXAMPLE + ["home 3 1"])
        self.assertEqual(desk.say("rooms 2 line"), "ok")
        self.assertEqual(desk.say("text"), "rooms 2 line\nrow - -")
        self.assertEqual(desk.say("put 3"), "3 1")

    def test_homes(self):
        desk = desk_told(["rooms 5 wraps", "put 3"])
        self.assertEqual(desk.say("home 3 1"), "ok")
        self.assertEqual(desk.say("text"), "rooms 5 wraps\nhome 3 1\nrow - 3 - - -")
        self.assertEqual(desk.say("home 9 12"), "ok")
        self.assertEqual(desk.say("put 9"), "9 2")
        self.assertEqual(desk.say("home 7 1000000000000000000"), "ok")
        self.assertEqual(
            desk.say("text"),
            "rooms 5 wraps\nhome 3 1\nhome 9 12\nhome 7 1000000000000000000\nrow - 3 9 - -")

    def test_a_home_told_again_stands_at_its_place(self):
        desk = desk_told(["rooms 5 line", "home 3 1", "home 9 2", "home 7 0", "put 9", "put 3", "home 9 1"])
        self.assertEqual(desk.say("text"), "rooms 5 line\nhome 3 1\nhome 9 1\nhome 7 0\nrow - 3 9 - -")
        desk.say("home 3 4")
        self.assertEqual(desk.say("text"), "rooms 5 line\nhome 3 4\nhome 9 1\nhome 7 0\nrow - 9 - - 3")
        desk.say("home 7 0")
        self.assertEqual(desk.say("text"), "rooms 5 line\nhome 3 4\nhome 9 1\nhome 7 0\nrow - 9 - - 3")

    def test_sizes(self):
        desk = desk_told(EXAMPLE + ["home 8 9"])
        self.assertEqual(desk.say("size 4"), "ok")
        self.assertEqual(desk.say("text"), "rooms 4 wraps\nhome 8 9\nrow 4 8 13 3")
        self.assertEqual(desk.say("size 64"), "ok")
        self.assertEqual(desk.say("look 13"), "there 13 sees 13")
        self.assertEqual(desk.say("text").split("\n")[:2], ["rooms 64 wraps", "home 8 9"])
        line = desk_told(["rooms 5 line", "put 3"])
        self.assertEqual(line.say("size 2"), "ok")
        self.assertEqual(line.say("text"), "rooms 2 line\nrow - 3")
        self.assertEqual(line.say("size 1"), "ok")
        self.assertEqual(line.say("text"), "rooms 1 line\nrow 3")

    def test_lines(self):
        desk = desk_told(["rooms 5 line", "put 0", "put 5", "put 1"])
        self.assertEqual(desk.say("put 10"), "10 2, 1 3")
        self.assertEqual(desk.say("look 9"), "gone sees -")
        self.assertEqual(desk.say("look 15"), "gone sees 0 5 10 1")
        self.assertEqual(desk.say("far"), "2 10 2")
        self.assertEqual(desk.say("all"), "5")
        self.assertEqual(desk.say("window 1"), "0 1")
        self.assertEqual(desk.say("take 5"), "1 back 10 1 back 1 2")

    def test_undoing(self):
        desk = desk_told(EXAMPLE + ["take 8"])
        for row in ("row 13 4 - 3 8", "row 4 - - 3 8", "row - - - 3 8", "row - - - 3 -", "row - - - - -"):
            self.assertEqual(desk.say("undo"), "yes")
            self.assertEqual(desk.say("text"), "rooms 5 wraps\n" + row)
        self.assertEqual((desk.say("undo"), desk.say("undo")), ("no", "no"))
        self.assertEqual(desk.say("text"), "rooms 5 wraps\nrow - - - - -")

    def test_an_undoing_is_not_undone(self):
        desk = desk_told(["rooms 5 wraps", "put 3", "put 4", "undo", "undo"])
        self.assertEqual((desk.say("undo"), desk.say("keys")), ("no", "none"))

    def test_undo_behind_what_houses_anew(self):
        for row in ("rooms 5 wraps", "home 9 1", "home 3 1", "home 3 3", "size 4", "size 5", "size 6"):
            desk = desk_told(EXAMPLE + [row])
            text = desk.say("text")
            self.assertEqual((desk.say("undo"), desk.say("text")), ("no", text))
            desk.say("put 30" if "-" in text else "take 3")
            self.assertEqual((desk.say("undo"), desk.say("text"), desk.say("undo")), ("yes", text, "no"))

    def test_undo_behind_what_was_refused(self):
        for row in ("size 3", "size 0", "rooms 65 wraps", "home 1", "put 3", "take 9", "window 9", "x"):
            desk = desk_told(EXAMPLE)
            self.assertNotEqual(told(desk.say, row)[0], "told")
            self.assertEqual(undone(desk), undone(desk_told(EXAMPLE)))
        line = ["rooms 2 line", "put 0", "put 1"]
        desk = desk_told(line)
        self.assertEqual(told(desk.say, "home 0 1"), ("NoRoom", {"room": 1}))
        self.assertEqual(undone(desk), undone(desk_told(line)))

    def test_the_edges_of_numbers(self):
        desk = desk_told(["rooms 1 line"])
        self.assertEqual(desk.say(f"put {MOST}"), f"{MOST} 0")
        self.assertEqual(desk.say(f"look {MOST}"), f"there 0 sees {MOST}")
        self.assertEqual(desk.say(f"home {MOST} {MOST}"), "ok")
        self.assertEqual(desk.say("home 0 0"), "ok")
        self.assertEqual(desk.say("text"), f"rooms 1 line\nhome {MOST} {MOST}\nhome 0 0\nrow {MOST}")
        self.assertEqual(desk.say(f"take {MOST}"), "0")
        self.assertEqual(desk.say("put 0"), "0 0")
        self.assertEqual(desk.say("keys"), "0")
        self.assertEqual(desk.say("window 0"), "0 0")

    def test_fewest(self):
        for wraps in (True, False):
            homes = [(7, 5), (9, 5), (5, 69)]
            desk = desk_told(["rooms 64 " + ("wraps" if wraps else "line")] + [f"home {key} {to}" for key, to in homes])
            for key in (0, 4, 60, 7, 9, 5):
                desk.say(f"put {key}")
            for most in range(101):
                rooms = fewest_rooms([0, 4, 60, 7, 9, 5], homes, wraps, most)[0]
                self.assertEqual(desk.say(f"fewest {most}"), "none" if rooms is None else str(rooms))
        desk = desk_told(["rooms 2 wraps", "home 1 0", "home 2 0", "put 1", "put 2"])
        self.assertEqual((desk.say("fewest 0"), desk.say("fewest 1")), ("none", "2"))
        desk = desk_told(["rooms 9 line", "put 0", "put 4"])
        self.assertEqual(desk.say("fewest 0"), "3")

    def test_a_full_desk(self):
        for way in ("wraps", "line"):
            both = Both(self)
            both.say(f"rooms 64 {way}")
            for key in range(64):
                both.say(f"home {key} {key // 2}")
                both.say(f"put {key}")
            for row in ("put 64", "put 5", "home 64 1", "home 5 63", "home 63 63", "far", "all", "text", "keys", "size 63",
                        "look 64", "fewest 31", "fewest 32", "fewest 33", "undo", "take 0", "put 64"):
                both.say(row)


class NoRows(unittest.TestCase):
    def desks(self):
        return [Desk(), desk_told(["rooms 5 wraps"]), desk_told(EXAMPLE), desk_told(["rooms 5 line", "put 3"])]

    def no_row(self, thing):
        for desk in self.desks():
            refused(self, NoRow, {}, desk, thing)

    def test_what_is_no_text(self):
        for thing in NO_NUMBERS + NO_PLANS + NO_ROWS:
            if not isinstance(thing, str) or thing in ("", "3", "plan"):
                self.no_row(thing)
        for row in RIGHT_ROWS + EXAMPLE:
            for thing in ([row], (row,), row.split(" "), tuple(row.split(" ")), row.encode(), {row: row}):
                self.no_row(thing)

    def test_other_texts(self):
        for text in ("", " ", "\n", "\t", "x", "row", "row - - - - -", "rooms", "ok", "none", "help", "back", "gone", "3",
                     "say far", "look", "rooms 5 wraps\nrow - - - - -", "put 3\nput 4", "put 3, put 4"):
            self.no_row(text)

    def test_other_words(self):
        for row in RIGHT_ROWS + ["rooms 5 wraps", "rooms 5 line"]:
            words = row.split(" ")
            for text in (row + " ", " " + row, row + "\n", "\n" + row, row + "\t", "\t" + row, row + " 3", row + " x",
                         row + " -", row.upper(), row[0].upper() + row[1:], row[1:], row + "s", row + "."):
                if not is_row_told(text):
                    self.no_row(text)
            if len(words) > 1:
                self.no_row("  ".join(words))
                self.no_row("\t".join(words))
                self.no_row("\n".join(words))
                self.no_row("".join(words))
                self.no_row(" ".join(words[:-1]))
                self.no_row(" ".join(words[1:]))
                self.no_row(" ".join(words[:-1]) + " ")

    def test_numbers_that_are_not_as_told(self):
        for word, bounds in SORTS.items():
            for at, (least, most) in enumerate(bounds):
                numbers = NO_FIGURES + [str(most + 1), str(most + 2), str(most) + "0", "0" + str(most)]
                for number in numbers + (["0"] if least else []):
                    words = [word] + ["3"] * len(bounds)
                    words[at + 1] = number
                    self.no_row(" ".join(words))

    def test_the_first_row(self):
        for text in ("rooms 0 wraps", "rooms 65 wraps", "rooms 65 line", "rooms 5", "rooms wraps", "rooms 5 ring",
                     "rooms 5 Wraps", "rooms 5 wraps 5", "rooms 05 wraps", "rooms -5 wraps", "rooms +5 line",
                     "rooms 5 wraps line", "rooms  wraps", "rooms 5 ", "rooms 5 l", "rooms 5  wraps", "room 5 wraps",
                     "Rooms 5 wraps", "rooms 5 wraps ", "rooms 5\twraps", "rooms 1000000000000000000 wraps"):
            self.no_row(text)
        for number in NO_FIGURES:
            self.no_row(f"rooms {number} wraps")

    def test_one_sign_put_in_left_out_or_changed(self):
        for row in RIGHT_ROWS + ["rooms 5 wraps", "rooms 64 line", "size 64", "fewest 100"]:
            for at in range(len(row) + 1):
                texts = [row[:at] + row[at + 1:]]
                texts += [row[:at] + sign + row[at:] for sign in " \n\t-0159Sx+"]
                texts += [row[:at] + sign + row[at + 1:] for sign in " \n\t-0159Sx+"]
                for text in texts:
                    self.as_told(text)

    def as_told(self, text):
        due = "NoRow" if not is_row_told(text) else "told" if text.startswith("rooms") else "NoPlan"
        self.assertEqual(told(Desk().say, text)[0], due, text)
        behind = told(desk_told(["rooms 5 wraps", "put 3"]).say, text)[0]
        self.assertEqual(behind == "NoRow", due == "NoRow", text)

    def test_nothing_is_changed(self):
        for text in (None, "", "put", "rooms 0 wraps", "rooms 5", "home 3", "size 65", "put 3 ", "undo 1", "fewest 101"):
            for rows in (EXAMPLE, EXAMPLE + ["home 3 1", "take 8"]):
                desk = desk_told(rows)
                refused(self, NoRow, {}, desk, text)
                self.assertEqual(undone(desk), undone(desk_told(rows)))


class NoPlans(unittest.TestCase):
    def test_each_but_the_first(self):
        desk = Desk()
        for row in RIGHT_ROWS + ["home 3 0", f"put {MOST}", "size 1", "size 64", "fewest 100"]:
            refused(self, NoPlan, {}, desk, row)
        self.assertEqual(desk.say("rooms 5 wraps"), "ok")
        self.assertEqual(desk.say("text"), "rooms 5 wraps\nrow - - - - -")

    def test_still_none_behind_a_first_row_that_was_refused(self):
        desk = Desk()
        for row in ("rooms 0 wraps", "rooms 65 line", "rooms 5"):
            refused(self, NoRow, {}, desk, row)
            refused(self, NoPlan, {}, desk, "text")

    def test_never_behind_the_first(self):
        desk = desk_told(["rooms 5 line", "put 3"])
        for row in RIGHT_ROWS:
            self.assertNotEqual(told(desk.say, row)[0], "NoPlan")


class OtherRefusals(unittest.TestCase):
    def test_there(self):
        desk = desk_told(EXAMPLE)
        for key in (3, 8, 4, 13):
            refused(self, There, {"key": key}, desk, f"put {key}")
        self.assertEqual(undone(desk), undone(desk_told(EXAMPLE)))

    def test_there_comes_ahead_of_no_room(self):
        desk = desk_told(EXAMPLE + ["put 0"])
        refused(self, There, {"key": 0}, desk, "put 0")
        refused(self, NoRoom, {"room": 0}, desk, "put 1")
        line = desk_told(["rooms 2 line", "put 1"])
        refused(self, There, {"key": 1}, line, "put 1")
        refused(self, NoRoom, {"room": 1}, line, "put 3")
        self.assertEqual(line.say("put 2"), "2 0")

    def test_not_there(self):
        desk = desk_told(EXAMPLE)
        for word in ("take", "window"):
            for key in (0, 18, MOST):
                refused(self, NotThere, {"key": key}, desk, f"{word} {key}")
        self.assertEqual(undone(desk), undone(desk_told(EXAMPLE)))

    def test_no_room_at_a_size(self):
        desk = desk_told(EXAMPLE)
        for rooms in (1, 2, 3):
            refused(self, NoRoom, {"room": 0}, desk, f"size {rooms}")
        self.assertEqual(undone(desk), undone(desk_told(EXAMPLE)))
        line = desk_told(["rooms 8 line", "put 3", "put 5"])
        refused(self, NoRoom, {"room": 1}, line, "size 2")
        self.assertEqual(line.say("text"), "rooms 8 line\nrow - - - 3 - 5 - -")
        self.assertEqual(line.say("size 3"), "ok")
        self.assertEqual(line.say("text"), "rooms 3 line\nrow 3 - 5")

    def test_no_room_at_a_home(self):
        rows = ["rooms 3 line", "home 1 0", "put 2", "put 1"]
        desk = desk_told(rows)
        refused(self, NoRoom, {"room": 2}, desk, "home 1 2")
        self.assertEqual(desk.say("text"), "rooms 3 line\nhome 1 0\nrow 1 - 2")
        refused(self, NoRoom, {"room": 2}, desk, "home 1 5")
        self.assertEqual(undone(desk), undone(desk_told(rows)))
        self.assertEqual(desk.say("home 2 1"), "ok")

    def test_too_many(self):
        rows = ["rooms 2 line"] + [f"home {key} 1" for key in range(64)] + ["put 0"]
        desk = desk_told(rows)
        for key in (64, 99, MOST):
            refused(self, TooMany, {"most": 64}, desk, f"home {key} 0")
        self.assertEqual(undone(desk), undone(desk_told(rows)))
        for key in (0, 63, 31):
            self.assertEqual(desk.say(f"home {key} 0"), "ok")
        self.assertEqual(len(desk.say("text").split("\n")), 66)

    def test_too_many_comes_ahead_of_no_room(self):
        rows = ["rooms 2 line"] + [f"home {key} 1" for key in range(1, 65)] + ["put 100", "put 1"]
        desk = desk_told(rows)
        refused(self, TooMany, {"most": 64}, desk, "home 100 1")
        refused(self, NoRoom, {"room": 1}, desk_told(rows[:1] + rows[2:]), "home 100 1")
        refused(self, TooMany, {"most": 64}, desk, "home 101 1")
        self.assertEqual(undone(desk), undone(desk_told(rows)))

    def test_63_homes_and_one_more(self):
        desk = desk_told(["rooms 2 line"] + [f"home {key} 1" for key in range(63)])
        self.assertEqual(desk.say("home 63 1"), "ok")
        refused(self, TooMany, {"most": 64}, desk, "home 64 1")
        desk.say("rooms 2 line")
        self.assertEqual(desk.say("home 64 1"), "ok")


class Alike(unittest.TestCase):
    def test_what_asks_is_answered_alike_when_it_is_told_again(self):
        for rows in (EXAMPLE, EXAMPLE + ["home 3 1", "size 9", "take 8", "put 7"], ["rooms 5 line", "put 3", "put 8"]):
            desk = desk_told(rows)
            for row in ASKING:
                answer = told(desk.say, row)
                self.assertEqual([told(desk.say, row), told(desk.say, row)], [answer, answer])
            self.assertEqual(undone(desk), undone(desk_told(rows)))

    def test_two_desks_told_rows_by_turns(self):
        one, other = Desk(), Desk()
        self.assertEqual(one.say("rooms 5 wraps"), "ok")
        refused(self, NoPlan, {}, other, "put 3")
        self.assertEqual((other.say("rooms 3 line"), one.say("put 3"), other.say("put 5")), ("ok", "3 3", "5 2"))
        self.assertEqual((one.say("home 5 0"), other.say("put 1")), ("ok", "1 1"))
        self.assertEqual(one.say("text"), "rooms 5 wraps\nhome 5 0\nrow - - - 3 -")
        self.assertEqual(other.say("text"), "rooms 3 line\nrow - 1 5")
        self.assertEqual((one.say("undo"), other.say("undo"), other.say("keys"), one.say("keys")), ("no", "yes", "5", "3"))

    def test_two_that_were_told_the_same_rows_answer_the_same(self):
        for seed in range(5):
            one, other = Desk(), Desk()
            rows = mixed_rows(seed, 60)
            answers = [told(one.say, row) for row in rows]
            self.assertEqual([told(other.say, row) for row in rows], answers)

    def test_what_is_told_by_turns_is_as_told_by_itself(self):
        for seed in range(5):
            first, second = mixed_rows(seed, 60), mixed_rows(seed + 70, 60)
            one, other = Desk(), Desk()
            turns = [(told(one.say, row), told(other.say, more)) for row, more in zip(first, second)]
            alone = Desk()
            self.assertEqual([told(alone.say, row) for row in first], [turn[0] for turn in turns])

    def test_the_text_is_that_of_a_row_read_again(self):
        for seed in range(5):
            desk = Desk()
            for row in mixed_rows(seed, 60):
                told(desk.say, row)
                if told(desk.say, "text")[0] == "told":
                    row = read_row(desk.say("text"))
                    again = row_of(row.plan, sorted(row.keys_held()))
                    self.assertEqual(again.rooms_held(), row.rooms_held())


def mixed_rows(seed, many):
    """Rows of all sorts, few of them refused as no rows; the numbers are small, so that keys clash."""
    numbers = numbers_from(seed, 3 * many + 2, 1000)
    rows = [f"rooms {numbers[-1] % 9 + 1} " + ("wraps" if seed % 2 else "line")]
    for step in range(many):
        choice, key, number = numbers[3 * step:3 * step + 3]
        sorts = ["put"] * 9 + ["take"] * 4 + ["look", "window"] * 2 + [
            "undo", "undo", "far", "all", "text", "keys", "home", "home", "size", "fewest", "rooms", "x"]
        sort = sorts[choice % len(sorts)]
        key = key % 14
        if sort in ("put", "take", "look", "window"):
            rows.append(f"{sort} {key}")
        elif sort == "home":
            rows.append(f"home {key} {number % 30}")
        elif sort == "size":
            rows.append(f"size {number % 12}")
        elif sort == "fewest":
            rows.append(f"fewest {number % 5}")
        elif sort == "rooms":
            rows.append(f"rooms {number % 9} line" if number % 4 == 0 else f"put {number}")
        else:
            rows.append(sort)
    return rows


class AgainstTheModel(unittest.TestCase):
    def test_mixed_rows(self):
        for seed in range(60):
            both = Both(self)
            for row in mixed_rows(seed, 80):
                both.say(row)
                if both.model.plan is not None:
                    both.say("text")

    def test_each_row_is_met(self):
        """The mixed rows hold each sort, answered and (where it can be) refused."""
        met = {}
        for seed in range(60):
            desk = Desk()
            for row in mixed_rows(seed, 80):
                met.setdefault(row.split(" ")[0], set()).add(told(desk.say, row)[0])
        self.assertEqual(set(met), set(SORTS) | {"rooms", "x"})
        self.assertEqual((met["put"], met["take"]), ({"told", "There", "NoRoom"}, {"told", "NotThere"}))
        self.assertEqual((met["home"], met["size"]), ({"told", "NoRoom"}, {"told", "NoRoom", "NoRow"}))
        self.assertEqual((met["window"], met["rooms"]), ({"told", "NotThere"}, {"told", "NoRow"}))

    def test_large_rows(self):
        for seed, way in ((1, "wraps"), (2, "line"), (3, "wraps"), (4, "line")):
            both = Both(self)
            both.say(f"rooms {40 + 8 * (seed - 1)} {way}")
            for step, number in enumerate(numbers_from(seed, 140, 400)):
                if step % 7 == 6:
                    both.say(f"home {number} {step}")
                both.say(f"put {number}" if step % 3 else f"take {number % 40}")
                both.say(f"put {number % 40}")
                both.say(f"look {number}")
                if step % 10 == 0:
                    for row in ("text", "keys", "far", "all", f"window {number}", f"size {30 + step % 35}", "fewest 3"):
                        both.say(row)


if __name__ == "__main__":
    unittest.main()
