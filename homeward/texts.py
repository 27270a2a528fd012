"""Texts: a row written in rows of text, and read again."""

from homeward.errors import NoText
from homeward.plans import MOST_HOMES, MOST_NUMBER, MOST_ROOMS, Plan
from homeward.rows import Row

FIGURES = "0123456789"
# As many as the greatest number has.
MOST_FIGURES = 19


# The figures are counted ahead of the reading: Python itself refuses to read thousands of them.
def number_written(word, least, most):
    if len(word) == 0 or len(word) > MOST_FIGURES:
        return None
    if not all([sign in FIGURES for sign in word]):
        return None
    if word[0] == "0" and len(word) > 1:
        return None
    number = int(word)
    return number if least <= number <= most else None


def start_written(words):
    if len(words) != 3 or words[0] != "rooms" or words[2] not in ("wraps", "line"):
        return None
    rooms = number_written(words[1], 1, MOST_ROOMS)
    return None if rooms is None else (rooms, words[2] == "wraps")


def home_written(words):
    if len(words) != 3 or words[0] != "home":
        return None
    key = number_written(words[1], 0, MOST_NUMBER)
    number = number_written(words[2], 0, MOST_NUMBER)
    return None if key is None or number is None else (key, number)


def housing_written(words, rooms):
    if len(words) != rooms + 1 or words[0] != "row":
        return None
    housing = []
    for word in words[1:]:
        key = number_written(word, 0, MOST_NUMBER)
        if key is None and word != "-":
            return None
        housing.append(key)
    return housing


# Up to the first row that can't be a home row there, whatever else it may be.
def homes_written(rows):
    homes = {}
    for words in rows[:MOST_HOMES]:
        pair = home_written(words)
        if pair is None or pair[0] in homes:
            break
        homes[pair[0]] = pair[1]
    return list(homes.items())


def read_row(text):
    if not isinstance(text, str):
        raise NoText(0)
    rows = [part.split(" ") for part in text.split("\n")]
    start = start_written(rows[0])
    if start is None:
        raise NoText(0)
    homes = homes_written(rows[1:])
    last = len(homes) + 1
    housing = housing_written(rows[last], start[0]) if last < len(rows) else None
    if housing is None:
        raise NoText(last)
    if len(rows) > last + 1:
        raise NoText(last + 1)
    return Row(Plan(start[0], start[1], homes), housing)


def show_held(held):
    return "-" if held is None else str(held)


def show_row(row):
    start = " ".join(["rooms", str(row.plan.rooms), "wraps" if row.plan.wraps else "line"])
    homes = [f"home {key} {number}" for key, number in row.plan.homes_told()]
    housing = " ".join(["row"] + [show_held(held) for held in row.rooms_held()])
    return "\n".join([start] + homes + [housing])
