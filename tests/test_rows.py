"""Points 2, 4, 7 and 8: clicktrain/rows.py."""

import inspect
import random
import unittest

from clicktrain import rows
from clicktrain.errors import NoCount, NoRow, NoStand, NoTrain
from clicktrain.rows import left, left_often
from tests.plain import (CLICK, FULL_TRAINS, HUGE, LONG_TRAINS, NO_NUMBERS, NO_TRAINS, PARTS, ROCKER, TRAINS,
                         copied, no_rows, refusal, row_by_words, rows_for, same_kind, stands_by_words)

NO_COUNTS = NO_NUMBERS + [-1, -2, -HUGE]

BIG_TEETH = 9 * 10 ** 39 + 7
BIG_MARKS = tuple([0] + [BIG_TEETH // 41 * step + step for step in range(1, 39)] + [BIG_TEETH - 1])


def passed(teeth, marks, place, way, times):
    """How many marks a wheel passes, by when each one is first met and then each turn again."""
    count = 0
    for mark in marks:
        first = ((mark - place - 1) if way == 1 else (place - mark)) % teeth + 1
        if times >= first:
            count += 1 + (times - first) // teeth
    return count


class Interface(unittest.TestCase):
    def test_names_and_arguments(self):
        told = {"left": ["train", "stand", "row"], "left_often": ["train", "stand", "row", "times"]}
        for name, arguments in told.items():
            function = getattr(rows, name)
            self.assertEqual(function.__module__, "clicktrain.rows")
            self.assertEqual(list(inspect.signature(function).parameters), arguments)


class LeftOneByOne(unittest.TestCase):
    def hold(self, train, stand, row):
        told = left(train, stand, row)
        right = row_by_words(train, stand, row)
        self.assertTrue(same_kind(told, right), (train, stand, row, told, right))

    def test_no_deeds_leave_all(self):
        for train in TRAINS:
            for stand in stands_by_words(train):
                self.assertTrue(same_kind(left(train, stand, []), (stand, 0)))

    def test_one_deed_at_every_stand(self):
        for train in TRAINS:
            for stand in stands_by_words(train)[:30]:
                for i in range(len(train)):
                    for way in (1, -1):
                        for times in (0, 1, 2, 3, 5, 8, 21):
                            self.hold(train, stand, [(i, way, times)])

    def test_rows_of_none_to_sixteen_deeds(self):
        for seed, train in enumerate(TRAINS):
            stands = stands_by_words(train)
            for number, row in enumerate(rows_for(train, seed, 6, 16, 12)):
                self.hold(train, stands[number * 7 % len(stands)], row)

    def test_sixteen_deeds_on_long_trains(self):
        for seed, train in enumerate(LONG_TRAINS):
            for stand in stands_by_words(train)[::5]:
                for row in rows_for(train, seed + 900, 3, 16, 40):
                    self.hold(train, stand, (row * 16)[:16])

    def test_pushes_of_a_deed_come_to_its_part_only_and_behind(self):
        train = [("wheel", 4, (0, 2)), ("wheel", 3, (0,)), ("spring", 5)]
        self.assertEqual(left(train, (3, 2, 4), [(1, 1, 1)]), ((3, 0, 0), 1))
        self.assertEqual(left(train, (3, 2, 4), [(0, 1, 1)]), ((0, 0, 0), 1))
        self.assertEqual(left(train, (3, 2, 4), [(2, 1, 11)]), ((3, 2, 0), 3))

    def test_sums_may_be_below_nought(self):
        train = [("wheel", 2, (0, 1)), ("wheel", 3, (1,))]
        self.assertEqual(left(train, (0, 0), [(0, -1, 7)]), ((1, 2), -2))
        self.assertEqual(left(train, (0, 0), [(0, -1, 7), (0, 1, 7)]), ((0, 0), 0))

    def test_a_rocker_gives_once_and_a_spring_throws_over(self):
        self.assertEqual(left([ROCKER], (0,), [(0, 1, 9)]), ((1,), 1))
        self.assertEqual(left([ROCKER], (1,), [(0, 1, 9)]), ((1,), 0))
        self.assertEqual(left([ROCKER], (0,), [(0, 1, 9), (0, -1, 9), (0, 1, 9)]), ((1,), 2))
        self.assertEqual(left([("spring", 4)], (3,), [(0, -1, 2), (0, 1, 3)]), ((0,), 1))
        self.assertEqual(left([("spring", 4)], (3,), [(0, -1, 9), (0, 1, 3)]), ((3,), 0))


class LeftGreat(unittest.TestCase):
    def test_wheels_of_forty_figures_by_reckoning(self):
        self.assertEqual(len(BIG_MARKS), 40)
        part = ("wheel", BIG_TEETH, BIG_MARKS)
        places = [0, 1, BIG_TEETH - 1, BIG_TEETH // 2, BIG_MARKS[7], BIG_MARKS[7] - 1, BIG_MARKS[7] + 1]
        counts = [0, 1, 2, BIG_TEETH - 1, BIG_TEETH, BIG_TEETH // 3, BIG_MARKS[9] - BIG_MARKS[7], 10 ** 39, HUGE]
        for place in places:
            for way in (1, -1):
                for times in counts:
                    told = left([part], (place,), [(0, way, times)])
                    right = (((place + way * times) % BIG_TEETH,),
                             way * passed(BIG_TEETH, BIG_MARKS, place, way, times))
                    self.assertTrue(same_kind(told, right), (place, way, times))

    def test_small_wheels_many_times(self):
        for part in [part for part in PARTS if part[0] == "wheel"]:
            for place in range(part[1]):
                for way in (1, -1):
                    for times in (HUGE, HUGE - 1, 10 ** 39):
                        told = left([part], (place,), [(0, way, times)])
                        right = way * passed(part[1], part[2], place, way, times)
                        self.assertEqual(told, (((place + way * times) % part[1],), right))

    def test_whole_turns(self):
        for turns in (1, 2, 1000, 10 ** 20):
            teeth = 10 ** 19 + 1
            marks = (0, 5, 10 ** 18, teeth - 1)
            for place in (0, 4, 5, teeth - 1):
                for way in (1, -1):
                    told = left([("wheel", teeth, marks)], (place,), [(0, way, teeth * turns)])
                    self.assertEqual(told, ((place,), way * turns * 4))

    def test_whole_turns_of_a_chain_of_wheels(self):
        train = [("wheel", 10 ** 12, (0,)), ("wheel", 10 ** 12, (0,)), ("wheel", 10 ** 12, (0, 1))]
        self.assertEqual(left(train, (5, 6, 7), [(0, 1, 10 ** 36)]), ((5, 6, 7), 2))
        self.assertEqual(left(train, (5, 6, 7), [(0, -1, 3 * 10 ** 36)]), ((5, 6, 7), -6))
        self.assertEqual(left(train, (0, 0, 0), [(0, 1, 10 ** 24 - 1)]), ((10 ** 12 - 1, 10 ** 12 - 1, 0), 0))
        self.assertEqual(left(train, (0, 0, 0), [(0, 1, 10 ** 24)]), ((0, 0, 1), 1))

    def test_springs_of_forty_figures(self):
        train = [("spring", HUGE)]
        self.assertEqual(left(train, (0,), [(0, 1, HUGE)]), ((0,), 1))
        self.assertEqual(left(train, (0,), [(0, 1, HUGE - 1)]), ((HUGE - 1,), 0))
        self.assertEqual(left(train, (HUGE - 1,), [(0, 1, HUGE)]), ((HUGE - 1,), 1))
        self.assertEqual(left(train, (HUGE - 1,), [(0, -1, HUGE)]), ((0,), 0))
        self.assertEqual(left(train, (HUGE - 1,), [(0, -1, HUGE - 2)]), ((1,), 0))
        self.assertEqual(left([("spring", 7)], (3,), [(0, 1, HUGE)]), (((3 + HUGE) % 7,), (3 + HUGE) // 7))

    def test_clicks_and_rockers_many_times(self):
        self.assertEqual(left([CLICK], (0,), [(0, 1, HUGE)]), ((0,), HUGE))
        self.assertEqual(left([CLICK], (0,), [(0, -1, HUGE)]), ((0,), 0))
        self.assertEqual(left([ROCKER], (0,), [(0, 1, HUGE)]), ((1,), 1))
        self.assertEqual(left([ROCKER], (1,), [(0, -1, HUGE)]), ((0,), 0))
        self.assertEqual(left([CLICK, ("spring", 10)], (0, 0), [(0, 1, HUGE)]), ((0, 9), 10 ** 39 - 1))

    def great_trains(self):
        wheel = ("wheel", BIG_TEETH, BIG_MARKS)
        thick = ("wheel", 41, tuple(range(40)))
        return [[wheel], [thick, wheel, ("spring", 3)], [("spring", HUGE)], [thick, CLICK, ("spring", 10 ** 20)],
                [thick, thick, thick, thick, thick, thick, thick, ("wheel", 10 ** 39, (0, 10 ** 39 - 1))],
                [thick, ("wheel", 3, (0, 1)), ROCKER, wheel]]

    def test_one_deed_cut_in_two(self):
        draw = random.Random(41)
        for train in self.great_trains() + LONG_TRAINS:
            stand = tuple(0 for part in train)
            for number in range(20):
                i, way = draw.randrange(len(train)), draw.choice((1, -1))
                one, two = draw.randint(0, HUGE // 2), draw.randint(0, 10 ** draw.randint(0, 39))
                whole = left(train, stand, [(i, way, one + two)])
                self.assertEqual(left(train, stand, [(i, way, one), (i, way, two)]), whole)
                stand = whole[0]

    def test_the_halves_one_behind_the_other(self):
        draw = random.Random(43)
        for train in self.great_trains() + LONG_TRAINS:
            stand = tuple(0 for part in train)
            for number in range(10):
                row = [(draw.randrange(len(train)), draw.choice((1, -1)), draw.randint(0, HUGE)) for deed in range(16)]
                cut = draw.randint(0, 16)
                middle, first = left(train, stand, row[:cut])
                end, second = left(train, middle, row[cut:])
                self.assertTrue(same_kind(left(train, stand, row), (end, first + second)))
                stand = end

    def test_wheels_take_pushes_back(self):
        train = [("wheel", BIG_TEETH, BIG_MARKS), ("wheel", 7, (0, 2)), ("wheel", 10 ** 38, (5,))]
        stand = (17, 3, 10 ** 37)
        for times in (1, 10 ** 20, HUGE):
            self.assertEqual(left(train, stand, [(0, 1, times), (0, -1, times)]), (stand, 0))
            self.assertEqual(left(train, stand, [(1, -1, times), (1, 1, times)]), (stand, 0))

    def test_a_wheel_of_very_many_marks(self):
        marks = tuple(range(0, 2000, 2))
        train = [("wheel", 2000, marks)]
        for place in (0, 1, 999, 1999):
            for way in (1, -1):
                for times in (0, 1, 2, 777, 2000, 4001):
                    right = way * passed(2000, marks, place, way, times)
                    self.assertEqual(left(train, (place,), [(0, way, times)])[1], right)


class LeftRefused(unittest.TestCase):
    def test_what_is_no_row(self):
        for train in [[CLICK], LONG_TRAINS[0], LONG_TRAINS[4]]:
            stand = tuple(0 for part in train)
            for thing in no_rows(len(train)):
                self.assertIs(refusal(left, train, stand, thing), NoRow, (train, thing))
                self.assertIs(refusal(left_often, train, stand, thing, 0), NoRow, (train, thing))
                self.assertIs(refusal(left_often, train, stand, thing, 2), NoRow, (train, thing))

    def test_edges_that_are_rows(self):
        train = LONG_TRAINS[4]
        stand = tuple(0 for part in train)
        for row in [[], [(0, 1, 0)], [(7, -1, 0)], [(7, 1, HUGE)] * 16]:
            self.assertIsNone(refusal(left, train, stand, row), row)
            self.assertIsNone(refusal(left_often, train, stand, row, HUGE), row)

    def test_no_train_comes_first(self):
        for thing in NO_TRAINS:
            self.assertIs(refusal(left, thing, (0,), []), NoTrain, thing)
            self.assertIs(refusal(left, thing, None, None), NoTrain, thing)
            self.assertIs(refusal(left_often, thing, (0,), [], 1), NoTrain, thing)
            self.assertIs(refusal(left_often, thing, None, None, None), NoTrain, thing)

    def test_then_no_stand(self):
        for thing in [None, (), [], [0], 0, (True,), (-1,), (3,), (0, 0), ("0",), (None,)]:
            for row in ([], None, [(1, 1, 1)]):
                self.assertIs(refusal(left, [("wheel", 3, ())], thing, row), NoStand, thing)
                for times in (0, 1, -1, None):
                    self.assertIs(refusal(left_often, [("wheel", 3, ())], thing, row, times), NoStand, thing)

    def test_then_no_row_then_no_count(self):
        for times in NO_COUNTS:
            self.assertIs(refusal(left_often, [CLICK], (0,), [(0, 1, True)], times), NoRow, times)
            self.assertIs(refusal(left_often, [CLICK], (0,), None, times), NoRow, times)
            self.assertIs(refusal(left_often, [CLICK], (0,), [], times), NoCount, times)
            self.assertIs(refusal(left_often, [CLICK], (0,), [(0, 1, 1)], times), NoCount, times)

    def test_refusals_are_value_errors(self):
        for ask, handed in [(left, ([CLICK], (0,), None)), (left_often, ([CLICK], (0,), [], -1))]:
            with self.assertRaises(ValueError):
                ask(*handed)


def often_by_left(train, stand, row, times):
    total = 0
    for time in range(times):
        stand, shown = left(train, stand, row)
        total += shown
    return stand, total


class LeftOften(unittest.TestCase):
    def hold(self, train, stand, row, times):
        told = left_often(train, stand, row, times)
        right = often_by_left(train, stand, row, times)
        self.assertTrue(same_kind(told, right), (train, stand, row, times, told, right))

    def test_against_left_done_one_behind_the_other(self):
        for seed, train in enumerate(TRAINS):
            stands = stands_by_words(train)
            for number, row in enumerate(rows_for(train, seed + 50, 3, 4, 6)):
                for times in (0, 1, 2, 3, 4, 5, 7, 12, 29, 61):
                    self.hold(train, stands[number * 5 % len(stands)], row, times)

    def test_every_number_of_times_at_every_stand(self):
        for train in [[("spring", 4)], [ROCKER], [("wheel", 5, (1, 3)), ("spring", 3)], [("spring", 2), ROCKER]]:
            for stand in stands_by_words(train):
                for row in rows_for(train, 3, 5, 3, 4) + [[(0, -1, 1)], [(0, 1, 1)]]:
                    for times in range(33):
                        self.hold(train, stand, row, times)

    def test_nought_times_and_no_deeds(self):
        for train in TRAINS:
            for stand in stands_by_words(train)[:6]:
                row = [(0, 1, 3)]
                self.assertTrue(same_kind(left_often(train, stand, row, 0), (stand, 0)))
                self.assertTrue(same_kind(left_often(train, stand, [], HUGE), (stand, 0)))
                self.assertTrue(same_kind(left_often(train, stand, row, 1), left(train, stand, row)))

    def test_some_times_ahead_of_the_round(self):
        # From 9 the spring is drawn down first, then it stays: the stands ahead come only once.
        train = [("spring", 10), ("wheel", 3, (0,))]
        row = [(0, -1, 2), (1, 1, 1)]
        for times in list(range(40)):
            self.hold(train, (9, 0), row, times)
        self.assertEqual(left_often(train, (9, 0), row, 3 * 10 ** 39 + 2), ((0, 2), 10 ** 39))

    def test_one_push_often_is_one_deed(self):
        for train in TRAINS:
            for stand in stands_by_words(train)[::4]:
                for way in (1, -1):
                    for times in (5, 1000, 10 ** 39 + 3, HUGE):
                        self.assertEqual(left_often(train, stand, [(0, way, 1)], times),
                                         left(train, stand, [(0, way, times)]))

    def test_great_counts_one_behind_the_other(self):
        draw = random.Random(47)
        for seed, train in enumerate(LONG_TRAINS + FULL_TRAINS):
            for row in rows_for(train, seed + 70, 3, 16, 50):
                stand = tuple(0 for part in train)
                one, two = draw.randint(0, HUGE // 2), draw.randint(0, HUGE // 2)
                middle, first = left_often(train, stand, row, one)
                end, second = left_often(train, middle, row, two)
                self.assertTrue(same_kind(left_often(train, stand, row, one + two), (end, first + second)))

    def test_two_thousand_stands(self):
        for train in FULL_TRAINS:
            stand = tuple(0 for part in train)
            for times in (1999, 2000, 2001, 4003, HUGE):
                for way in (1, -1):
                    self.assertEqual(left_often(train, stand, [(0, way, 1)], times),
                                     left(train, stand, [(0, way, times)]))
            for row in rows_for(train, 5, 2, 16, 9):
                self.hold(train, stand, row, 2500)

    def test_a_round_of_all_two_thousand(self):
        self.assertEqual(left_often([("wheel", 2000, (0,))], (1,), [(0, 1, 1)], 2000 * 10 ** 36 + 1998),
                         ((1999,), 10 ** 36))
        self.assertEqual(left_often([("wheel", 2000, (0,))], (1,), [(0, 1, 1)], 2000 * 10 ** 36 + 1999),
                         ((0,), 10 ** 36 + 1))

    def test_many_stands_few_times(self):
        train = [("wheel", BIG_TEETH, BIG_MARKS), ("spring", HUGE)]
        row = [(0, 1, BIG_TEETH // 3), (1, 1, HUGE // 5)]
        for times in (0, 1, 300):
            self.hold(train, (4, 5), row, times)


class HandedIn(unittest.TestCase):
    def test_what_is_handed_in_stays_and_asked_again_tells_the_same(self):
        for seed, train in enumerate(LONG_TRAINS):
            stand = tuple(0 for part in train)
            for row in rows_for(train, seed, 4, 8, 9):
                before = copied((train, stand, row))
                once = left(train, stand, row)
                often = left_often(train, stand, row, 77)
                self.assertTrue(same_kind((train, stand, row), before))
                self.assertTrue(same_kind(left(train, stand, row), once))
                self.assertTrue(same_kind(left_often(train, stand, row, 77), often))

    def test_what_is_changed_later_is_told_anew(self):
        train = [("wheel", 5, (0,))]
        row = [(0, 1, 5)]
        told = left(train, (0,), row)
        often = left_often(train, (0,), row, 3)
        row.append((0, -1, 1))
        self.assertEqual(left(train, (0,), row), ((4,), 0))
        self.assertEqual(left_often(train, (0,), row, 5), ((0,), 4))
        train[0] = ("wheel", 5, ())
        self.assertEqual(left(train, (0,), row), ((4,), 0))
        train[0] = ("spring", 5)
        self.assertEqual(left(train, (0,), row), ((0,), 1))
        self.assertEqual(left_often(train, (0,), row, 3), ((0,), 3))
        self.assertEqual((told, often), (((0,), 1), ((0,), 3)))


if __name__ == "__main__":
    unittest.main()
