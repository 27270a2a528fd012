"""Points 3, 4, 7 and 34 to 38: the fewest rooms, a paper for each lesser number, and whether a telling is right."""

import unittest

from homeward.fewest import fewest_rooms, is_fewest
from homeward.housed import housed_rooms, is_crowd
from homeward.plans import Plan
from homeward.rows import Row
from homeward.spread import farthest, shows_far

from tests.helpers import (
    MOST, NO_KEY_LISTS, NO_NUMBERS, Stranger, all_housings, all_windows, counted_do, crowd_rooms, fars_in,
    first_that_does, greatest_shown, is_crowd_there, most_shown, numbers_from, only_kept, refused_wrong, ring_in_itself,
    small_key_lists, told,
)

SOME_HOMES = [(0, 1), (4, 4), (9, 3), (13, MOST), (2, 0)]
EXAMPLE = ([0, 4], [], False, 0)


def some_cases():
    """Keys, homes, wraps and a most: few and many keys, far and near homes, each of the edges of the most."""
    lists = [
        [], [7], [0, 4], [3, 8, 4, 13], [0, 60, 120, 180], [MOST, 0, 1], list(range(10)),
        [7 * key for key in range(20)], [5, 61, 62, 63, 64, 128], [64 * key for key in range(12)],
    ]
    return [
        (keys, homes, wraps, most)
        for keys in lists for homes in ([], SOME_HOMES, [(key, 2) for key in range(64)])
        for wraps in (True, False) for most in (0, 1, 2, 5, 99, 100)
    ]


def large_cases():
    return [
        (keys, homes, wraps, most)
        for keys in (list(range(63)), [64 * key for key in range(63)], list(range(64)), list(range(65)),
                     [MOST - 3 * key for key in range(64)], list(range(100)), [960 * key for key in range(100)])
        for homes in ([], [(key, key // 2) for key in range(64)])
        for wraps in (True, False) for most in (0, 7, 62, 63, 100)
    ]


def is_counted_paper(plan, keys, most, paper):
    """Whether a tuple of a word and whole numbers is a right paper."""
    if paper[0] == "crowd":
        return paper[1] in crowd_rooms(plan, keys)
    first, last = paper[1:]
    if min(first, last) < 0 or max(first, last) >= plan.rooms or (first > last and not plan.wraps):
        return False
    return most_shown(plan, keys, (first, last)) > most


def some_paper(plan, keys, most):
    """A right paper, of the last one that counting finds: mostly another one than is told."""
    for room in reversed(crowd_rooms(plan, keys)):
        return ("crowd", room)
    for window in reversed(all_windows(plan)):
        if most_shown(plan, keys, window) > most:
            return ("window",) + window
    raise AssertionError("they do there")


class Counting(unittest.TestCase):
    def test_crowds_as_counted_home_by_home(self):
        for keys, homes, wraps, most in some_cases()[::6]:
            for rooms in (1, 2, 3, 4, 5, 9):
                plan = Plan(rooms, wraps, homes)
                there = [room for room in range(rooms) if is_crowd_there(rooms, wraps, homes, keys, room)]
                self.assertEqual(crowd_rooms(plan, keys), there)
                shown = [most_shown(plan, keys, window) for window in all_windows(plan)]
                self.assertEqual(greatest_shown(plan, keys), max(shown + [-1]))


class TheFewest(unittest.TestCase):
    def told_right(self, keys, homes, wraps, most):
        answer = fewest_rooms(keys, homes, wraps, most)
        self.assertEqual((type(answer), len(answer)), (tuple, 2))
        rooms, papers = answer
        self.assertEqual(rooms, first_that_does(keys, homes, wraps, most))
        self.assertIs(type(rooms), int if rooms is not None else type(None))
        self.assertIs(type(papers), list)
        self.assertEqual(len(papers), 64 if rooms is None else rooms - 1)
        for lesser, paper in enumerate(papers, start=1):
            self.paper_right(Plan(lesser, wraps, homes), keys, most, paper)
        self.assertIs(is_fewest(keys, homes, wraps, most, answer), True)

    def paper_right(self, plan, keys, most, paper):
        self.assertIs(type(paper), tuple)
        self.assertIn((paper[0], len(paper)), [("crowd", 2), ("window", 3)])
        self.assertEqual([type(thing) for thing in paper], [str] + [int] * (len(paper) - 1))
        self.assertTrue(is_counted_paper(plan, keys, most, paper))

    def test_some(self):
        for keys, homes, wraps, most in some_cases():
            self.told_right(keys, homes, wraps, most)

    def test_many_keys(self):
        for keys, homes, wraps, most in large_cases():
            self.told_right(keys, homes, wraps, most)

    def test_mixed_ones(self):
        for seed in range(1, 16):
            keys = sorted(set(numbers_from(seed, 4 * seed, 900)))
            homes = list(dict(zip(keys[::3], numbers_from(seed + 50, len(keys), 70))).items())
            for wraps in (True, False):
                for most in (0, 1, 3, 9):
                    self.told_right(keys, homes, wraps, most)

    def test_no_keys_and_one_key(self):
        for homes in ([], [(7, 3)]):
            for wraps in (True, False):
                for most in (0, 1, 100):
                    for keys in ([], [0], [7], [MOST]):
                        self.assertEqual(fewest_rooms(keys, homes, wraps, most), (1, []))

    def test_two_keys(self):
        self.assertEqual(fewest_rooms([0, 1], [], True, 0), (2, [("crowd", 0)]))
        self.assertEqual(fewest_rooms([0, 1], [], False, 0), (2, [("crowd", 0)]))
        self.assertEqual(fewest_rooms([0, 2], [], True, 0), (3, [("crowd", 0), ("window", 0, 0)]))
        self.assertEqual(fewest_rooms([0, 2], [], True, 1), (2, [("crowd", 0)]))
        self.assertEqual(fewest_rooms([1, 3], [], False, 1), (3, [("crowd", 0), ("crowd", 1)]))
        self.assertEqual(fewest_rooms([1, 3], [], True, 1), (2, [("crowd", 0)]))

    def test_the_example(self):
        rooms, papers = fewest_rooms(*EXAMPLE)
        self.assertEqual((rooms, papers), (3, [("crowd", 0), ("window", 0, 0)]))
        dos = [farthest(Row(plan, housed_rooms(plan, [0, 4])))[0] == 0 for plan in
               [Plan(rooms, False, []) for rooms in (2, 3, 4, 5)]]
        self.assertEqual(dos, [False, True, False, True])
        self.assertIs(is_fewest(*EXAMPLE, (3, papers)), True)
        self.assertIs(is_fewest(*EXAMPLE, (4, papers + [("window", 0, 0)])), False)
        self.assertIs(is_fewest(*EXAMPLE, (5, papers + [("window", 0, 0), ("window", 0, 0)])), False)

    def test_the_keys_of_point_17(self):
        self.assertEqual([fewest_rooms([3, 8, 4, 13], [], True, most)[0] for most in (0, 1, 2, 3)], [6, 4, 4, 4])

    def test_a_hundred_keys_and_more_than_64(self):
        for many in (65, 66, 100):
            for wraps in (True, False):
                for most in (0, 99, 100):
                    rooms, papers = fewest_rooms(list(range(many)), [], wraps, most)
                    self.assertIsNone(rooms)
                    self.assertEqual(len(papers), 64)

    def test_64_keys(self):
        for wraps in (True, False):
            rooms, papers = fewest_rooms(list(range(64)), [], wraps, 0)
            self.assertEqual((rooms, len(papers)), (64, 63))
        self.assertEqual(fewest_rooms([64 * key for key in range(64)], [], True, 63)[0], 64)
        self.assertIsNone(fewest_rooms([64 * key for key in range(64)], [], True, 0)[0])

    def test_none_though_they_would_fit(self):
        homes = [(1, 0), (2, 0)]
        for wraps in (True, False):
            rooms, papers = fewest_rooms([1, 2], homes, wraps, 0)
            self.assertEqual((rooms, papers), (None, [("crowd", 0)] + [("window", 0, 0)] * 63))
            self.assertEqual(fewest_rooms([1, 2], homes, wraps, 1), (2, [("crowd", 0)]))

    def test_a_most_just_reached(self):
        homes = [(key, 5) for key in range(10)]
        for wraps in (True, False):
            for many in range(2, 11):
                keys = list(range(many))
                self.assertIsNotNone(fewest_rooms(keys, homes, wraps, many - 1)[0])
                self.assertIsNone(fewest_rooms(keys, homes, wraps, many - 2)[0])

    def test_lines_need_rooms_behind(self):
        homes = [(key, 7) for key in range(4)]
        self.assertEqual(fewest_rooms([0, 1, 2, 3], homes, True, 3)[0], 4)
        self.assertEqual(fewest_rooms([0, 1, 2, 3], homes, False, 3)[0], 6)

    def test_against_all_housings(self):
        for wraps in (True, False):
            for homes in ([], SOME_HOMES, [(key, 2) for key in range(10)]):
                for keys in small_key_lists(Plan(3, wraps, homes)):
                    for most in (0, 1, 2):
                        self.as_all_housings_say(keys, homes, wraps, most)

    def as_all_housings_say(self, keys, homes, wraps, most):
        rooms, papers = fewest_rooms(keys, homes, wraps, most)
        for lesser in range(1, 6):
            plan = Plan(lesser, wraps, homes)
            kept = only_kept(plan, keys)
            do = kept is not None and max(fars_in(plan, kept), default=0) <= most
            self.assertEqual(counted_do(plan, keys, most), do)
            self.assertEqual(
                any(max(fars_in(plan, housing), default=0) <= most
                    for housing in all_housings(lesser, wraps, homes, keys)), do)
            if do:
                self.assertEqual(rooms, lesser)
                return
        self.assertTrue(rooms is None or rooms > 5)

    def test_papers_as_the_package_says(self):
        keys, homes = [3, 8, 4, 13, 18, 23, 60], [(60, 3)]
        for wraps in (True, False):
            for most in (0, 1, 2, 5):
                for lesser, paper in enumerate(fewest_rooms(keys, homes, wraps, most)[1], start=1):
                    plan = Plan(lesser, wraps, homes)
                    if paper[0] == "crowd":
                        self.assertIs(is_crowd(plan, keys, paper[1]), True)
                    else:
                        self.assertIs(shows_far(plan, keys, most + 1, paper[1:]), True)

    def test_in_whatever_order(self):
        keys, homes = [3, 8, 4, 13, 60], [(60, 3), (8, 1)]
        for wraps in (True, False):
            self.assertEqual(
                fewest_rooms(keys, homes, wraps, 1)[0], fewest_rooms(keys[::-1], homes[::-1], wraps, 1)[0])


class Wrongs(unittest.TestCase):
    def test_no_list_of_keys(self):
        for keys in NO_KEY_LISTS + [list(range(101)), Plan(5, True, []), Row(Plan(5, True, []))]:
            refused_wrong(self, 0, fewest_rooms, keys, [], True, 0)
            refused_wrong(self, 0, fewest_rooms, keys, None, None, None)
        for thing in NO_NUMBERS:
            refused_wrong(self, 0, fewest_rooms, [thing], [], True, 0)
            refused_wrong(self, 0, fewest_rooms, [1, thing, 2], [(1, 1), (1, 1)], 0, -1)

    def test_no_homes(self):
        for homes in (None, True, 0, "", (), ((1, 2),), {}, {1: 2}, {(1, 2)}, object(), Stranger(), list,
                      ring_in_itself(), [1], [(1,)], [(1, 2, 3)], [[1, 2]], [(1, 2), (1, 3)], [(1, 2), (2, 1), (1, 2)],
                      [(key, 0) for key in range(65)], [Stranger()]):
            refused_wrong(self, 1, fewest_rooms, [3], homes, True, 0)
            refused_wrong(self, 1, fewest_rooms, [], homes, None, None)
        for thing in NO_NUMBERS:
            refused_wrong(self, 1, fewest_rooms, [3], [(thing, 1)], True, 0)
            refused_wrong(self, 1, fewest_rooms, [3], [(1, thing)], 1, 101)

    def test_wraps_is_true_or_false(self):
        for wraps in [thing for thing in NO_NUMBERS if not isinstance(thing, bool)] + [0, 1, "True", bool]:
            refused_wrong(self, 2, fewest_rooms, [3], [], wraps, 0)
            refused_wrong(self, 2, fewest_rooms, [], [(1, 1)], wraps, None)

    def test_no_most(self):
        for most in NO_NUMBERS + [101, 102, MOST]:
            refused_wrong(self, 3, fewest_rooms, [3], [], True, most)
            refused_wrong(self, 3, fewest_rooms, list(range(100)), [], False, most)

    def test_what_is_handed_in_stays_as_it_was(self):
        keys, homes = [8, 3, 13], [(3, 1), (1, 9)]
        answer = fewest_rooms(keys, homes, True, 0)
        told(fewest_rooms, keys, homes, True, 101)
        again = (answer[0], list(answer[1]))
        is_fewest(keys, homes, True, 0, answer)
        self.assertEqual((keys, homes, answer), ([8, 3, 13], [(3, 1), (1, 9)], again))

    def test_own_lists(self):
        keys, homes = [0, 4], []
        answer = fewest_rooms(keys, homes, False, 0)
        answer[1].clear()
        keys.append(9)
        homes.append((0, 1))
        self.assertEqual(fewest_rooms(*EXAMPLE), (3, [("crowd", 0), ("window", 0, 0)]))
        self.assertEqual(answer, (3, []))


def other_things(thing):
    """What could stand at the place of a thing of a paper, and isn't it."""
    things = [None, True, False, "", "0", "crowd", "window", "Crowd", "window ", (), (0,), [], [0], {}, set(), b"crowd",
              object(), Stranger(), ring_in_itself(), int, -1, 64, 65, MOST, MOST + 1, 10 ** 5000]
    return [other for other in things if type(other) is not type(thing) or other != thing]


class RightTellings(unittest.TestCase):
    """Whether is_fewest tells True just of what is right: cases, each with a telling and the same put otherwise."""

    def is_right(self, case, thing, right):
        self.assertIs(is_fewest(*case, thing), right)

    def test_with_other_papers(self):
        for keys, homes, wraps, most in some_cases()[::17]:
            rooms = first_that_does(keys, homes, wraps, most)
            plans = [Plan(lesser, wraps, homes) for lesser in range(1, 65 if rooms is None else rooms)]
            papers = [some_paper(plan, keys, most) for plan in plans]
            self.is_right((keys, homes, wraps, most), (rooms, papers), True)

    def test_each_paper_there_could_be(self):
        for wraps in (True, False):
            for keys, homes in (([3, 8, 4, 13, 18], [(18, 3)]), ([0, 60, 120, 180], []), ([1, 3, 5, 7, 9], [])):
                for most in (0, 1, 2):
                    self.each_paper((keys, homes, wraps, most))

    def each_paper(self, case):
        keys, homes, wraps, most = case
        rooms, papers = fewest_rooms(*case)
        for place in range(min(len(papers), 6)):
            plan = Plan(place + 1, wraps, homes)
            span = range(-1, plan.rooms + 2)
            others = [("crowd", room) for room in span] + [("window", one, other) for one in span for other in span]
            for paper in others:
                right = is_counted_paper(plan, keys, most, paper)
                self.is_right(case, (rooms, papers[:place] + [paper] + papers[place + 1:]), right)

    def test_a_window_is_right_though_they_do_not_fit(self):
        self.is_right(([0, 1, 2], [], True, 0), (3, [("window", 0, 0), ("window", 0, 1)]), True)
        self.is_right(([0, 1, 2], [], True, 1), (3, [("window", 0, 0), ("crowd", 0)]), True)
        self.is_right(([0, 1, 2], [], True, 1), (3, [("window", 0, 0), ("window", 0, 1)]), False)
        self.is_right(([0, 1, 2], [], True, 2), (3, [("window", 0, 0), ("crowd", 0)]), False)

    def test_a_window_that_goes_round(self):
        case = ([3, 7, 0, 4], [], True, 1)
        self.assertEqual(first_that_does(*case), 5)
        rooms, papers = fewest_rooms(*case)
        self.is_right(case, (rooms, papers[:3] + [("window", 3, 0)]), True)
        self.is_right(case, (rooms, papers[:3] + [("window", 0, 3)]), False)
        line = ([3, 7, 0, 4], [], False, 1)
        rooms, papers = fewest_rooms(*line)
        self.is_right(line, (rooms, papers), True)
        self.is_right(line, (rooms, papers[:3] + [("window", 3, 0)] + papers[4:]), False)

    def test_the_most_of_100_and_of_99(self):
        keys = list(range(100))
        for wraps in (True, False):
            papers = fewest_rooms(keys, [], wraps, 100)[1]
            for most, right in ((97, True), (98, True), (99, False), (100, False)):
                case = (keys, [], wraps, most)
                self.is_right(case, (None, papers), True)
                self.is_right(case, (None, [("window", 0, 0)] + papers[1:]), right)

    def test_another_number_of_rooms(self):
        for case in (EXAMPLE, ([3, 8, 4, 13], [], True, 0), ([], [], True, 0), ([1, 2], [(1, 0), (2, 0)], False, 0)):
            rooms, papers = fewest_rooms(*case)
            for other in list(range(-1, 67)) + [None, True, False, "", str(rooms), (rooms,), [rooms], {}, Stranger(),
                                                ring_in_itself(), MOST, 10 ** 5000, int]:
                if type(other) is type(rooms) and other == rooms:
                    continue
                self.is_right(case, (other, papers), False)
                if type(other) is int:
                    last = papers[-1:] or [("crowd", 0)]
                    self.is_right(case, (other, (papers + last * 64)[:max(other - 1, 0)]), False)
            if rooms is not None:
                self.is_right(case, (None, papers + [("window", 0, 0)] * (64 - len(papers))), False)

    def test_a_truth_is_no_number_of_rooms(self):
        for case in (([], [], True, 0), ([7], [], False, 100)):
            self.is_right(case, (1, []), True)
            self.is_right(case, (True, []), False)
            self.is_right(case, (False, []), False)
            self.is_right(case, ("1", []), False)

    def test_all_lesser_ones_shown_but_they_do_not_do_there(self):
        case = ([0, 4, 8], [], False, 0)
        rooms, papers = fewest_rooms(*case)
        for lesser in range(1, rooms):
            self.is_right(case, (lesser, papers[:lesser - 1]), False)
        self.is_right(case, (rooms, papers), True)

    def test_papers_left_out_twice_exchanged(self):
        for case in (EXAMPLE, ([3, 8, 4, 13], [], True, 0), ([1, 3, 5, 7], [(1, 0)], False, 1),
                     ([1, 2], [(1, 0), (2, 0)], True, 0)):
            rooms, papers = fewest_rooms(*case)
            for place in range(len(papers)):
                self.is_right(case, (rooms, papers[:place] + papers[place + 1:]), False)
                self.is_right(case, (rooms, papers[:place + 1] + papers[place:]), False)
            self.is_right(case, (rooms, []), False)
            self.is_right(case, (rooms, papers + [("window", 0, 0)]), False)
            self.exchanged(case, rooms, papers)

    def exchanged(self, case, rooms, papers):
        keys, homes, wraps, most = case
        plans = [Plan(lesser, wraps, homes) for lesser in range(1, len(papers) + 1)]
        for place in range(len(papers) - 1):
            others = papers[:place] + [papers[place + 1], papers[place]] + papers[place + 2:]
            right = all(is_counted_paper(plan, keys, most, paper) for plan, paper in zip(plans, others))
            self.is_right(case, (rooms, others), right)

    def test_each_thing_of_a_paper_put_otherwise(self):
        for case in (EXAMPLE, ([3, 8, 4, 13], [], True, 0), ([1, 3, 5, 7], [], False, 0)):
            rooms, papers = fewest_rooms(*case)
            for place, paper in enumerate(papers):
                for at, thing in enumerate(paper):
                    for other in other_things(thing):
                        wrong = paper[:at] + (other,) + paper[at + 1:]
                        self.is_right(case, (rooms, papers[:place] + [wrong] + papers[place + 1:]), False)

    def test_each_paper_of_another_form(self):
        for case in (EXAMPLE, ([3, 8, 4, 13], [], True, 0), ([1, 3, 5, 7], [], False, 0)):
            rooms, papers = fewest_rooms(*case)
            for place, paper in enumerate(papers):
                for wrong in [list(paper), paper[:-1], paper[1:], paper + (0,), paper + (None,), (paper,), [paper], (),
                              paper[0], None, True, 0, {}, dict([paper[:2]]), set(), Stranger(), ring_in_itself(),
                              paper[:1] + (paper[1:],), ("crowd",), ("window",), ("window", (0, 0)), ("crowd", 0, 0)]:
                    self.is_right(case, (rooms, papers[:place] + [wrong] + papers[place + 1:]), False)

    def test_a_truth_is_no_room(self):
        case = ([1, 3, 5, 7], [], False, 0)
        rooms, papers = fewest_rooms(*case)
        self.is_right(case, (rooms, [("crowd", False)] + papers[1:]), False)
        self.is_right(case, (rooms, papers[:1] + [("crowd", 1)] + papers[2:]), True)
        self.is_right(case, (rooms, papers[:1] + [("crowd", True)] + papers[2:]), False)
        self.is_right(case, (rooms, papers[:1] + [("window", 1, 1)] + papers[2:]), True)
        self.is_right(case, (rooms, papers[:1] + [("window", True, 1)] + papers[2:]), False)
        self.is_right(case, (rooms, papers[:1] + [("window", 1, True)] + papers[2:]), False)

    def test_things_that_are_no_tellings(self):
        for case in (EXAMPLE, ([], [], True, 0), ([1, 2], [(1, 0), (2, 0)], True, 0)):
            rooms, papers = fewest_rooms(*case)
            for thing in NO_NUMBERS + [
                    [rooms, papers], (rooms, tuple(papers)), (papers, rooms), (rooms,), (rooms, papers, None),
                    (rooms, papers, papers), ((rooms, papers),), [(rooms, papers)], {rooms: papers}, rooms, papers,
                    (rooms, None), (rooms, {}), (rooms, ""), (rooms, dict(enumerate(papers))), (rooms, len(papers)),
                    (rooms, Stranger()), (Stranger(), papers), (rooms, ring_in_itself()), (None, None), (None, []),
                    (1, None), (0, [])]:
                self.is_right(case, thing, False)

    def test_nothing_is_refused_for_lying_somewhat_beyond(self):
        self.is_right((list(range(101)), [], True, 0), (None, [("crowd", 0)] * 64), True)
        self.is_right((list(range(101)), [], False, 0), (64, [("crowd", 0)] * 63), False)
        self.is_right(([0, 4], [], False, 101), (2, [("crowd", 0)]), True)
        self.is_right(([0, 4], [], False, 101), (3, [("crowd", 0), ("window", 0, 0)]), False)


if __name__ == "__main__":
    unittest.main()
