"""Fewest: in how few rooms some keys do, with a paper for each lesser number of rooms."""

from homeward.errors import Wrong
from homeward.housed import are_crowd, crowded_room
from homeward.plans import MOST_ROOMS, Plan, is_home_list, is_key_list, is_whole_within
from homeward.rows import row_of_keys
from homeward.spread import MOST_FAR, farthest, is_far_shown, is_window, window_of


# None where the keys do in the plan's rooms: then, and just then, there is no such paper.
def paper_against(plan, keys, most):
    room = crowded_room(plan, keys)
    if room is not None:
        return ("crowd", room)
    row = row_of_keys(plan, keys)
    best = farthest(row)
    if best is None or best[0] <= most:
        return None
    window = window_of(row, best[1])
    return ("window", window[0], window[1])


def fewest_rooms(keys, homes, wraps, most):
    if not is_key_list(keys):
        raise Wrong(0)
    if not is_home_list(homes):
        raise Wrong(1)
    if not isinstance(wraps, bool):
        raise Wrong(2)
    if not is_whole_within(most, 0, MOST_FAR):
        raise Wrong(3)
    papers = []
    for rooms in range(1, MOST_ROOMS + 1):
        paper = paper_against(Plan(rooms, wraps, homes), keys, most)
        if paper is None:
            return (rooms, papers)
        papers.append(paper)
    return (None, papers)


# Its first thing is asked for being a text ahead of all else: other things can't always be compared.
def is_paper(plan, keys, most, thing):
    if not isinstance(thing, tuple) or len(thing) == 0 or not isinstance(thing[0], str):
        return False
    if thing[0] == "crowd":
        return len(thing) == 2 and plan.is_room(thing[1]) and are_crowd(plan, keys, thing[1])
    if thing[0] == "window":
        return is_window(plan, thing[1:]) and is_far_shown(plan, keys, most + 1, thing[1:])
    return False


def are_papers(keys, homes, wraps, most, things):
    return all([is_paper(Plan(rooms, wraps, homes), keys, most, thing) for rooms, thing in enumerate(things, start=1)])


def is_fewest(keys, homes, wraps, most, told):
    if not isinstance(told, tuple) or len(told) != 2:
        return False
    rooms = told[0]
    papers = told[1]
    if rooms is not None and not is_whole_within(rooms, 1, MOST_ROOMS):
        return False
    lesser = MOST_ROOMS if rooms is None else rooms - 1
    if not isinstance(papers, list) or len(papers) != lesser:
        return False
    if not are_papers(keys, homes, wraps, most, papers):
        return False
    return rooms is None or paper_against(Plan(rooms, wraps, homes), keys, most) is None
