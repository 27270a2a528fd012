"""Points 2 to 4, 43 and 44: the one text of a row, how it is read, and how whatever else is refused."""

import re
import unittest

from homeward.errors import NoText, Unkept
from homeward.faults import fault_of
from homeward.plans import Plan
from homeward.rows import Row
from homeward.texts import read_row, show_row

from tests.helpers import (
    MOST, NO_FIGURES, NO_NUMBERS, NO_ROWS, is_figures, large_rows, numbers_from, row_of, small_housings, told,
)

RING = Plan(5, True, [])
EXAMPLE = "rooms 5 wraps\nrow 13 4 - 3 8"
WITH_HOMES = "rooms 3 line\nhome 10 0\nhome 2 1\nhome 11 1000000000000000000\nrow 10 2 11"
# A text of each kind of fault that a housing of numbers can have, with its two things.
FAULTS = [
    ("rooms 5 wraps\nrow 0 - - 0 -", "twice", 3),
    ("rooms 5 line\nrow - - - 4 -", "home", 3),
    ("rooms 5 wraps\nrow 4 - - - -", "empty", 0),
    ("rooms 5 line\nrow - - 1 - -", "empty", 2),
    ("rooms 5 wraps\nrow - - - 8 3", "order", 4),
    ("rooms 5 line\nrow 5 0 - - -", "order", 1),
    ("rooms 5 wraps\nrow 3 4 0 1 2", "turned", 0),
    ("rooms 2 wraps\nhome 1 1\nhome 2 0\nrow 1 2", "turned", 0),
]


def words_told(text):
    """Point 44 said a second time: told what was written, or the refusal, as helpers.told tells it."""
    rows = text.split("\n")
    first = re.fullmatch("rooms ([^ ]*) (wraps|line)", rows[0])
    if first is None or not is_figures(first[1], "64") or first[1] == "0":
        return ("NoText", {"at": 0})
    homes = []
    for at, row in enumerate(rows[1:], start=1):
        words = row.split(" ")
        if words[0] == "home" and len(words) == 3 and is_figures(words[1]) and is_figures(words[2]):
            if len(homes) == 64 or int(words[1]) in [key for key, number in homes]:
                return ("NoText", {"at": at})
            homes.append((int(words[1]), int(words[2])))
            continue
        if words[0] != "row" or len(words) != int(first[1]) + 1:
            return ("NoText", {"at": at})
        if not all(word == "-" or is_figures(word) for word in words[1:]):
            return ("NoText", {"at": at})
        if at + 1 < len(rows):
            return ("NoText", {"at": at + 1})
        return written(Plan(int(first[1]), first[2] == "wraps", homes), words[1:])
    return ("NoText", {"at": len(rows)})


def written(plan, words):
    rooms = [None if word == "-" else int(word) for word in words]
    fault = fault_of(plan, rooms)
    if fault is not None:
        return ("Unkept", {"word": fault[0], "room": fault[1]})
    return ("told", (plan.rooms, plan.wraps, plan.homes, rooms, []))


def row_told(text):
    """What read_row tells, a row as all that it holds."""
    name, row = told(read_row, text)
    if name != "told":
        return (name, row)
    return (name, (row.plan.rooms, row.plan.wraps, row.plan.homes, row.rooms_held(), row.deeds()))


def written_rows():
    """Each row of the small plans, many large ones, and some with many homes."""
    rows = [Row(plan, housing) for plan, keys, housing in small_housings()] + large_rows()
    for rooms, wraps in ((1, True), (1, False), (64, True), (64, False)):
        for homes in ([], [(MOST, MOST), (0, 0)], [(key, MOST - key) for key in range(64)]):
            rows += [Row(Plan(rooms, wraps, homes)), row_of(Plan(rooms, wraps, homes), [MOST])]
    return rows


class Shown(unittest.TestCase):
    def test_rings_and_lines(self):
        self.assertEqual(show_row(Row(RING, [13, 4, None, 3, 8])), EXAMPLE)
        self.assertEqual(show_row(Row(RING)), "rooms 5 wraps\nrow - - - - -")
        self.assertEqual(show_row(Row(Plan(5, False, []))), "rooms 5 line\nrow - - - - -")
        self.assertEqual(show_row(row_of(Plan(3, False, []), [0, 3])), "rooms 3 line\nrow 0 3 -")

    def test_one_room(self):
        self.assertEqual(show_row(Row(Plan(1, True, []))), "rooms 1 wraps\nrow -")
        self.assertEqual(show_row(Row(Plan(1, False, []), [0])), "rooms 1 line\nrow 0")
        self.assertEqual(show_row(Row(Plan(1, False, []), [MOST])), "rooms 1 line\nrow 1000000000000000000")

    def test_homes_in_their_order(self):
        plan = Plan(3, False, [(10, 0), (2, 1), (11, MOST)])
        self.assertEqual(show_row(row_of(plan, [2, 10, 11])), WITH_HOMES)
        plan = Plan(2, True, [(9, 1), (3, 0), (5, 0)])
        self.assertEqual(show_row(Row(plan)), "rooms 2 wraps\nhome 9 1\nhome 3 0\nhome 5 0\nrow - -")

    def test_the_numbers_told_not_the_homes_they_come_to(self):
        self.assertEqual(show_row(Row(Plan(2, True, [(1, 7)]))), "rooms 2 wraps\nhome 1 7\nrow - -")

    def test_not_of_its_deeds(self):
        row = row_of(RING, [3, 8, 4, 13, 0])
        row.take(0)
        self.assertEqual(show_row(row), EXAMPLE)
        self.assertEqual(len(row.deeds()), 6)

    def test_whatever_was_done_to_the_list_told(self):
        plan = Plan(3, False, [(10, 0), (2, 1), (11, MOST)])
        row = row_of(plan, [2, 10, 11])
        plan.homes.clear()
        self.assertEqual(show_row(row), WITH_HOMES)

    def test_a_text_of_plain_signs(self):
        for row in written_rows():
            text = show_row(row)
            self.assertIs(type(text), str)
            self.assertIsNotNone(re.fullmatch("[ -~\n]*", text))
            self.assertEqual(text.count("\n"), len(row.plan.homes) + 1)


class ReadAgain(unittest.TestCase):
    def test_each_row_and_its_text(self):
        for row in written_rows():
            text = show_row(row)
            again = read_row(text)
            self.assertIs(type(again), Row)
            self.assertEqual(
                (again.plan.rooms, again.plan.wraps, again.plan.homes, again.rooms_held(), again.deeds()),
                (row.plan.rooms, row.plan.wraps, row.plan.homes, row.rooms_held(), []))
            self.assertIs(type(again.plan.wraps), bool)
            self.assertEqual(show_row(again), text)
            self.assertEqual(words_told(text), row_told(text))

    def test_some(self):
        row = read_row(EXAMPLE)
        self.assertEqual((row.plan.rooms, row.plan.wraps, row.plan.homes), (5, True, []))
        self.assertEqual(row.rooms_held(), [13, 4, None, 3, 8])
        row = read_row(WITH_HOMES)
        self.assertEqual((row.plan.rooms, row.plan.wraps), (3, False))
        self.assertEqual(row.plan.homes, [(10, 0), (2, 1), (11, MOST)])
        self.assertEqual(row.rooms_held(), [10, 2, 11])

    def test_it_goes_on_as_any_row(self):
        row = read_row("rooms 5 wraps\nrow 4 - - 3 8")
        self.assertEqual((row.deeds(), row.undo()), ([], False))
        self.assertEqual(row.put(13), [(13, 0), (4, 1)])
        self.assertEqual(show_row(row), EXAMPLE)

    def test_each_time_a_new_one(self):
        one, other = read_row(EXAMPLE), read_row(EXAMPLE)
        one.take(3)
        self.assertEqual(other.rooms_held(), [13, 4, None, 3, 8])

    def test_64_homes(self):
        homes = "".join(f"\nhome {key} {key + 1}" for key in range(64))
        row = read_row("rooms 2 line" + homes + "\nrow - -")
        self.assertEqual(row.plan.homes, [(key, key + 1) for key in range(64)])


class NoTexts(unittest.TestCase):
    def no_text(self, text, at):
        with self.assertRaises(NoText) as caught:
            read_row(text)
        self.assertIs(type(caught.exception), NoText)
        self.assertIs(type(caught.exception.at), int)
        self.assertEqual(caught.exception.at, at)
        if isinstance(text, str):
            self.assertEqual(words_told(text), ("NoText", {"at": at}))

    def test_what_is_no_text(self):
        for thing in NO_NUMBERS + NO_ROWS:
            if not isinstance(thing, str):
                self.no_text(thing, 0)
        for thing in (0, 7, b"rooms 1 line\nrow -", [EXAMPLE], (EXAMPLE,), EXAMPLE.split("\n"), {EXAMPLE: 1},
                      read_row(EXAMPLE)):
            self.no_text(thing, 0)

    def test_nothing_and_nearly_nothing(self):
        for text in ("", " ", "\n", "\n\n", "\t", "rooms", "row", "home", "rooms 5", "x", "-", "5 wraps", "None"):
            self.no_text(text, 0)

    def test_the_first_row(self):
        for first in ("rooms 5 wrap", "rooms 5 Wraps", "rooms 5 WRAPS", "Rooms 5 wraps", "ROOMS 5 wraps", "room 5 wraps",
                      "rooms 5 lines", "rooms 5 Line", "rooms 5 wraps ", " rooms 5 wraps", "rooms  5 wraps",
                      "rooms 5  wraps", "rooms 5 wraps wraps", "rooms 5 5 wraps", "rooms 5\twraps", "rooms\t5 wraps",
                      "rooms 5 wraps\t", "rooms wraps 5", "rooms 5", "rooms wraps", "5 wraps", "rooms", "rooms 5 ",
                      "rooms  wraps", "rooms 5 -", "size 5", "row - - - - -", "home 1 1", "put 5", "rooms 5 wrapsline",
                      "rooms 5 wraps line", "rooms 5 r", "rooms 5 in", ""):
            for rest in ("", "\nrow - - - - -", "\nhome 1 1\nrow - - - - -", "\nx"):
                self.no_text(first + rest, 0)

    def test_the_number_of_rooms(self):
        for word in NO_FIGURES + ["0", "65", "66", "100", "640", "05", "064", str(MOST)]:
            for way in ("wraps", "line"):
                self.no_text(f"rooms {word} {way}\nrow - - - - -", 0)
                self.no_text(f"rooms {word} {way}", 0)
        for rooms in (1, 9, 10, 63, 64):
            row = read_row(f"rooms {rooms} wraps\nrow" + " -" * rooms)
            self.assertEqual(row.plan.rooms, rooms)

    def test_home_rows(self):
        for home in ("home 1", "home 1 2 3", "home  1 2", "home 1  2", "home 1 2 ", " home 1 2", "home\t1 2", "home 1\t2",
                     "home 1 2\t", "Home 1 2", "HOME 1 2", "homes 1 2", "home", "home ", "1 2", "home 1 -", "home - 1",
                     "rooms 5 wraps", "", " ", "\t", "x", "put 1", "size 5", "keys", "row", "row -", "Row - - - - -"):
            self.no_text(f"rooms 5 wraps\n{home}\nrow - - - - -", 1)
            self.no_text(f"rooms 5 line\nhome 7 7\n{home}\nrow - - - - -", 2)
            self.no_text(f"rooms 5 line\nhome 7 7\nhome 8 8\n{home}", 3)

    def test_numbers_in_home_rows(self):
        for word in NO_FIGURES:
            self.no_text(f"rooms 5 wraps\nhome {word} 1\nrow - - - - -", 1)
            self.no_text(f"rooms 5 wraps\nhome 1 {word}\nrow - - - - -", 1)
            self.no_text(f"rooms 5 wraps\nhome 1 1\nhome {word} {word}\nrow - - - - -", 2)

    def test_homes_told_twice(self):
        self.no_text("rooms 5 wraps\nhome 1 2\nhome 1 2\nrow - - - - -", 2)
        self.no_text("rooms 5 wraps\nhome 1 2\nhome 3 4\nhome 1 3\nrow - - - - -", 3)
        self.no_text("rooms 5 wraps\nhome 0 2\nhome 3 4\nhome 4 3\nhome 0 0\nhome 0 0\nx", 4)
        self.assertEqual(read_row("rooms 2 wraps\nhome 1 2\nhome 2 2\nrow - -").plan.homes, [(1, 2), (2, 2)])

    def test_a_sixty_fifth_home(self):
        homes = [f"home {key} 0" for key in range(66)]
        for many in (65, 66):
            text = "\n".join(["rooms 1 wraps"] + homes[:many])
            self.no_text(text, 65)
            self.no_text(text + "\nrow -", 65)
        self.no_text("\n".join(["rooms 1 wraps"] + homes[:64]), 65)
        self.no_text("\n".join(["rooms 1 wraps"] + homes[:64] + homes[:1] + ["row -"]), 65)
        self.no_text("\n".join(["rooms 1 wraps"] + homes[:64] + ["row"]), 65)
        self.no_text("\n".join(["rooms 1 wraps"] + homes[:64] + ["row -", "row -"]), 66)
        self.assertEqual(len(read_row("\n".join(["rooms 1 wraps"] + homes[:64] + ["row -"])).plan.homes), 64)

    def test_the_last_row(self):
        for last in ("row", "row ", "row -", "row - - - -", "row - - - - - -", "row - - - - 4 -", " row - - - - -",
                     "row  - - - - -", "row - -  - - -", "row - - - - - ", "row\t- - - - -", "row - - - - -\t",
                     "row -\t- - - -", "Row - - - - -", "ROW - - - - -", "rows - - - - -", "- - - - -", "- - - - - -",
                     "row _ - - - -", "row -- - - -", "row None - - - -", "row - - - - row", "row - - - - 4,"):
            self.no_text(f"rooms 5 wraps\n{last}", 1)
            self.no_text(f"rooms 5 line\nhome 1 2\n{last}", 2)
            self.no_text(f"rooms 5 line\nhome 1 2\n{last}\nrow - - - - -", 2)

    def test_numbers_in_the_last_row(self):
        for word in NO_FIGURES:
            if word != "-":
                for room in range(3):
                    words = ["-", "-", "-"]
                    words[room] = word
                    self.no_text("rooms 3 wraps\nrow " + " ".join(words), 1)

    def test_rows_behind_it(self):
        for more in ("", " ", "x", "row 13 4 - 3 8", "home 1 1", "rooms 5 wraps", "\n", "-"):
            self.no_text(EXAMPLE + "\n" + more, 2)
            self.no_text(WITH_HOMES + "\n" + more, 5)
        self.no_text("rooms 5 wraps\nrow 3 4 0 1 2\n", 2)

    def test_rows_missing(self):
        self.no_text("rooms 5 wraps", 1)
        self.no_text("rooms 5 line", 1)
        self.no_text("rooms 5 wraps\n", 1)
        self.no_text("rooms 5 wraps\nhome 1 1", 2)
        self.no_text("rooms 5 wraps\nhome 1 1\n", 2)
        self.no_text("rooms 5 wraps\nhome 1 1\nhome 2 1", 3)
        self.no_text("rooms 5 wraps\n\nrow - - - - -", 1)
        self.no_text("\nrooms 5 wraps\nrow - - - - -", 0)

    def test_homes_behind_the_last_row_and_rows_out_of_order(self):
        self.no_text("rooms 5 wraps\nrow - - - - -\nhome 1 1", 2)
        self.no_text("row - - - - -\nrooms 5 wraps", 0)
        self.no_text("home 1 1\nrooms 5 wraps\nrow - - - - -", 0)

    def test_the_first_of_several(self):
        self.no_text("rooms 0 wraps\nhome x 1\nrow", 0)
        self.no_text("rooms 5 wraps\nhome x 1\nrow", 1)
        self.no_text("rooms 5 wraps\nhome 1 1\nhome 1 1\nrow", 2)
        self.no_text("rooms 5 wraps\nhome 1 1\nrow\nrow", 2)

    def test_no_text_comes_ahead_of_unkept(self):
        self.no_text("rooms 5 wraps\nrow 0 - - 0 -\nx", 2)
        self.no_text("rooms 5 wraps\nrow 0 - - 0 x", 1)

    def test_the_signs_of_other_row_ends(self):
        for sign in ("\r", "\v", "\f", "\x1c", "\x85", "\u2028"):
            with self.assertRaises(NoText):
                read_row(EXAMPLE.replace("\n", sign))


class Unkepts(unittest.TestCase):
    def test_each_kind_of_fault(self):
        for text, word, room in FAULTS:
            with self.assertRaises(Unkept) as caught:
                read_row(text)
            self.assertIs(type(caught.exception), Unkept)
            self.assertEqual((caught.exception.word, caught.exception.room), (word, room))
            self.assertEqual(words_told(text), ("Unkept", {"word": word, "room": room}))

    def test_each_word_that_can_be_due_is_among_them(self):
        self.assertEqual({word for text, word, room in FAULTS}, {"twice", "home", "empty", "order", "turned"})

    def test_all_housings_of_few_words(self):
        for wraps in ("wraps", "line"):
            for homes in ("", "\nhome 0 1\nhome 3 2"):
                for words in [(a, b, c) for a in "-0134" for b in "-0134" for c in "-0134"]:
                    text = f"rooms 3 {wraps}{homes}\nrow " + " ".join(words)
                    self.assertEqual(row_told(text), words_told(text))


class NearTexts(unittest.TestCase):
    """Texts that are nearly written so, against the second saying."""

    def agree(self, text):
        self.assertEqual(row_told(text), words_told(text), text)

    def test_one_sign_put_in_left_out_or_changed(self):
        for text in (EXAMPLE, WITH_HOMES, "rooms 1 line\nrow 0", "rooms 10 line\nhome 0 10\nrow 10 - - - - - - - - 9"):
            for at in range(len(text) + 1):
                self.agree(text[:at] + text[at + 1:])
                for sign in " \n\t-0159rhwlx+":
                    self.agree(text[:at] + sign + text[at:])
                    self.agree(text[:at] + sign + text[at + 1:])

    def test_two_words_or_two_rows_exchanged(self):
        for text in (EXAMPLE, WITH_HOMES):
            for mark in (" ", "\n"):
                parts = text.split(mark)
                for one in range(len(parts)):
                    self.agree(mark.join(parts[:one] + parts[one + 1:]))
                    self.agree(mark.join(parts[:one + 1] + parts[one:]))
                    for other in range(one):
                        mixed = list(parts)
                        mixed[one], mixed[other] = mixed[other], mixed[one]
                        self.agree(mark.join(mixed))

    def test_mixed_up_words(self):
        words = ["rooms", "2", "wraps", "line", "\n", "\nhome", "\nrow", "0", "1", "-", "3", "\nrow - 1", "rooms 2 wraps"]
        for seed in range(400):
            self.agree(" ".join(words[at] for at in numbers_from(seed, 9, len(words))).replace(" \n", "\n"))
            tail = " ".join(words[at] for at in numbers_from(seed + 900, 7, len(words))).replace(" \n", "\n")
            self.agree("rooms 2 wraps\nhome 1 1" + tail)


if __name__ == "__main__":
    unittest.main()
