"""The desk: told rows of text, it keeps a row of keys and answers in texts."""

from homeward.errors import NoPlan, NoRow, TooMany
from homeward.fewest import fewest_rooms
from homeward.growing import row_sized
from homeward.looks import look_for
from homeward.plans import MOST_HOMES, MOST_NUMBER, MOST_ROOMS, Plan
from homeward.rows import Row, row_of_keys
from homeward.spread import MOST_FAR, far_sum, farthest, window_of
from homeward.texts import number_written, show_held, show_row, start_written


# The least and the most of each number that a row with this first word has; None where there is no such row.
def bounds_of(word):
    if word in ("far", "all", "text", "keys", "undo"):
        return []
    if word in ("put", "take", "look", "window"):
        return [(0, MOST_NUMBER)]
    if word == "home":
        return [(0, MOST_NUMBER), (0, MOST_NUMBER)]
    if word == "size":
        return [(1, MOST_ROOMS)]
    if word == "fewest":
        return [(0, MOST_FAR)]
    return None


def numbers_said(words):
    bounds = bounds_of(words[0])
    if bounds is None or len(words) != len(bounds) + 1:
        raise NoRow()
    numbers = [number_written(word, bound[0], bound[1]) for word, bound in zip(words[1:], bounds)]
    if None in numbers:
        raise NoRow()
    return numbers


# A key that has a home ahead keeps its place among them, as a dict does.
def row_with_home(row, key, number):
    homes = dict(row.plan.homes_told())
    if len(homes) == MOST_HOMES and key not in homes:
        raise TooMany(MOST_HOMES)
    homes[key] = number
    return row_of_keys(Plan(row.plan.rooms, row.plan.wraps, list(homes.items())), row.keys_held())


def put_answer(row, key):
    return ", ".join([f"{came} {room}" for came, room in row.put(key)])


def take_answer(row, key):
    taken = row.take(key)
    return "".join([str(taken[0])] + [f" back {came} {room}" for came, room in taken[1]])


def look_answer(row, key):
    look = look_for(row, key)
    found = ["gone"] if look[0] is None else ["there", str(look[0])]
    return " ".join(found + ["sees"] + [show_held(held) for room, held in look[1]])


def window_answer(row, key):
    return " ".join([str(room) for room in window_of(row, key)])


def far_answer(row):
    best = farthest(row)
    return "none" if best is None else " ".join([str(number) for number in best])


def keys_answer(row):
    return "none" if row.many() == 0 else " ".join([str(key) for key in row.keys_held()])


def fewest_answer(row, most):
    rooms = fewest_rooms(row.keys_held(), row.plan.homes_told(), row.plan.wraps, most)[0]
    return "none" if rooms is None else str(rooms)


def answer_with_number(row, word, number):
    if word == "put":
        return put_answer(row, number)
    if word == "take":
        return take_answer(row, number)
    if word == "look":
        return look_answer(row, number)
    if word == "window":
        return window_answer(row, number)
    return fewest_answer(row, number)


def answer_without_number(row, word):
    if word == "far":
        return far_answer(row)
    if word == "all":
        return str(far_sum(row))
    if word == "text":
        return show_row(row)
    if word == "keys":
        return keys_answer(row)
    return "yes" if row.undo() else "no"


class Desk:
    def __init__(self):
        self.row = None

    # A row that is kept anew has no deeds: so nothing from ahead of it is undone.
    def keep_row(self, row):
        self.row = row
        return "ok"

    def say(self, text):
        if not isinstance(text, str):
            raise NoRow()
        words = text.split(" ")
        start = start_written(words)
        if start is not None:
            return self.keep_row(Row(Plan(start[0], start[1], [])))
        numbers = numbers_said(words)
        if self.row is None:
            raise NoPlan()
        return self.answer(words[0], numbers)

    def answer(self, word, numbers):
        if word == "home":
            return self.keep_row(row_with_home(self.row, numbers[0], numbers[1]))
        if word == "size":
            return self.keep_row(row_sized(self.row, numbers[0]))
        if len(numbers) == 1:
            return answer_with_number(self.row, word, numbers[0])
        return answer_without_number(self.row, word)
