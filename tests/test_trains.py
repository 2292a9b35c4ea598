"""Points 2, 5, 6 and the stands of 9: clicktrain/trains.py."""

import inspect
import unittest

from clicktrain import trains
from clicktrain.errors import NoStand, NoTrain, TrainError
from clicktrain.trains import check_stand, check_train, pushed, stand_count, stands_of
from tests.plain import (CLICK, FULL_TRAINS, HUGE, LONG_TRAINS, NO_NUMBERS, NO_TRAINS, PARTS, ROCKER, TRAINS,
                         copied, no_stands, push_by_words, refusal, same_kind, stands_by_words)


class Interface(unittest.TestCase):
    def test_names_and_arguments(self):
        told = {"check_train": ["train"], "check_stand": ["train", "stand"],
                "pushed": ["train", "stand", "i", "way"], "stand_count": ["train"], "stands_of": ["train"]}
        for name, arguments in told.items():
            function = getattr(trains, name)
            self.assertEqual(function.__module__, "clicktrain.trains")
            self.assertEqual(list(inspect.signature(function).parameters), arguments)


class CheckTrain(unittest.TestCase):
    def test_each_kind_of_part_alone_and_with_others(self):
        for train in TRAINS:
            self.assertIsNone(check_train(train), train)

    def test_edges(self):
        forty = tuple(range(0, 80, 2))
        for part in [("wheel", 1, ()), ("wheel", 1, (0,)), ("wheel", 7, (0, 6)), ("wheel", 7, tuple(range(7))),
                     ("wheel", HUGE, ()), ("wheel", HUGE, (0, HUGE - 1)), ("wheel", 10 ** 39, (10 ** 38,)),
                     ("wheel", 80, forty), ("wheel", 79, forty),
                     ("spring", 1), ("spring", HUGE)]:
            self.assertIsNone(check_train([part]), part)
            self.assertIsNone(check_train([part] * 8), part)
        self.assertEqual(refusal(check_train, [("wheel", 78, forty)]), NoTrain)

    def test_what_is_no_train(self):
        for thing in NO_TRAINS:
            self.assertIs(refusal(check_train, thing), NoTrain, thing)

    def test_one_wrong_part_anywhere(self):
        for at in range(8):
            for wrong in [("cog",), ("wheel", True, ()), ["click"], None]:
                train = [CLICK] * 8
                train[at] = wrong
                self.assertIs(refusal(check_train, train), NoTrain, train)

    def test_the_refusal_is_a_value_error(self):
        with self.assertRaises(ValueError):
            check_train([])


class CheckStand(unittest.TestCase):
    def test_every_stand_of_small_trains(self):
        for train in TRAINS:
            for stand in stands_by_words(train):
                self.assertIsNone(check_stand(train, stand), (train, stand))

    def test_edges_of_forty_figures(self):
        train = [("wheel", HUGE, (0,)), CLICK, ROCKER, ("spring", HUGE)]
        for stand in [(0, 0, 0, 0), (HUGE - 1, 0, 1, HUGE - 1)]:
            self.assertIsNone(check_stand(train, stand))
        for stand in [(HUGE, 0, 0, 0), (0, 1, 0, 0), (0, 0, 2, 0), (0, 0, 0, HUGE), (-1, 0, 0, 0), (0, 0, 0, -1)]:
            self.assertIs(refusal(check_stand, train, stand), NoStand, stand)

    def test_what_is_no_stand(self):
        for train in [[part] for part in PARTS] + LONG_TRAINS:
            for thing in no_stands(train):
                self.assertIs(refusal(check_stand, train, thing), NoStand, (train, thing))

    def test_no_train_comes_ahead(self):
        for thing in NO_TRAINS:
            for stand in [(0,), (), None, (True,), (9, 9)]:
                self.assertIs(refusal(check_stand, thing, stand), NoTrain, (thing, stand))

    def test_the_refusal_is_a_value_error(self):
        with self.assertRaises(ValueError):
            check_stand([CLICK], (1,))

    def test_a_train_that_is_changed_is_looked_at_anew(self):
        train = [("wheel", 3, (0,))]
        check_stand(train, (2,))
        train[0] = ROCKER
        self.assertIs(refusal(check_stand, train, (2,)), NoStand)
        train[0] = ["click"]
        self.assertIs(refusal(check_stand, train, (0,)), NoTrain)


# (part, place, way): (new place, shown), each row taken from the words of point 6.
SINGLE_PUSHES = {
    (("wheel", 3, (0, 1)), 0, 1): (1, 1),
    (("wheel", 3, (0, 1)), 1, 1): (2, 0),
    (("wheel", 3, (0, 1)), 2, 1): (0, 1),
    (("wheel", 3, (0, 1)), 0, -1): (2, -1),
    (("wheel", 3, (0, 1)), 1, -1): (0, -1),
    (("wheel", 3, (0, 1)), 2, -1): (1, 0),
    (("wheel", 3, (2,)), 1, 1): (2, 1),
    (("wheel", 3, (2,)), 2, 1): (0, 0),
    (("wheel", 3, (2,)), 2, -1): (1, -1),
    (("wheel", 3, (2,)), 0, -1): (2, 0),
    (("wheel", 3, ()), 2, 1): (0, 0),
    (("wheel", 3, ()), 0, -1): (2, 0),
    (("wheel", 1, (0,)), 0, 1): (0, 1),
    (("wheel", 1, (0,)), 0, -1): (0, -1),
    (("wheel", 1, ()), 0, 1): (0, 0),
    (("wheel", 1, ()), 0, -1): (0, 0),
    (("wheel", HUGE, (0,)), HUGE - 1, 1): (0, 1),
    (("wheel", HUGE, (0,)), 0, -1): (HUGE - 1, -1),
    (("wheel", HUGE, (HUGE - 1,)), HUGE - 2, 1): (HUGE - 1, 1),
    (("wheel", HUGE, (HUGE - 1,)), HUGE - 1, -1): (HUGE - 2, -1),
    (("wheel", HUGE, (HUGE - 1,)), HUGE - 1, 1): (0, 0),
    (CLICK, 0, 1): (0, 1),
    (CLICK, 0, -1): (0, 0),
    (ROCKER, 0, 1): (1, 1),
    (ROCKER, 1, 1): (1, 0),
    (ROCKER, 1, -1): (0, 0),
    (ROCKER, 0, -1): (0, 0),
    (("spring", 1), 0, 1): (0, 1),
    (("spring", 1), 0, -1): (0, 0),
    (("spring", 3), 0, 1): (1, 0),
    (("spring", 3), 1, 1): (2, 0),
    (("spring", 3), 2, 1): (0, 1),
    (("spring", 3), 2, -1): (1, 0),
    (("spring", 3), 1, -1): (0, 0),
    (("spring", 3), 0, -1): (0, 0),
    (("spring", HUGE), HUGE - 1, 1): (0, 1),
    (("spring", HUGE), HUGE - 2, 1): (HUGE - 1, 0),
    (("spring", HUGE), HUGE - 1, -1): (HUGE - 2, 0),
}


class Pushed(unittest.TestCase):
    def test_each_part_alone_by_the_words(self):
        for (part, place, way), (after, shown) in SINGLE_PUSHES.items():
            told = pushed([part], (place,), 0, way)
            self.assertTrue(same_kind(told, ((after,), shown)), (part, place, way, told))

    def test_every_push_at_every_stand(self):
        for train in TRAINS:
            for stand in stands_by_words(train):
                for i in range(len(train)):
                    for way in (1, -1):
                        told = pushed(train, stand, i, way)
                        right = push_by_words(train, stand, i, way)
                        self.assertTrue(same_kind(told, right), (train, stand, i, way, told, right))

    def test_parts_ahead_stay_and_later_ones_are_pushed(self):
        train = [("wheel", 2, (0, 1)), ("wheel", 3, (0, 1, 2)), ("wheel", 5, (3,))]
        self.assertEqual(pushed(train, (0, 0, 2), 0, 1), ((1, 1, 3), 1))
        self.assertEqual(pushed(train, (0, 0, 2), 1, 1), ((0, 1, 3), 1))
        self.assertEqual(pushed(train, (0, 0, 2), 2, 1), ((0, 0, 3), 1))
        self.assertEqual(pushed(train, (0, 0, 3), 0, -1), ((1, 2, 2), -1))

    def test_a_part_that_gives_nothing_leaves_the_later_ones(self):
        train = [CLICK, ROCKER, ("wheel", 5, (3,))]
        self.assertEqual(pushed(train, (0, 1, 2), 0, -1), ((0, 1, 2), 0))
        self.assertEqual(pushed(train, (0, 1, 2), 0, 1), ((0, 1, 2), 0))
        self.assertEqual(pushed(train, (0, 0, 2), 0, 1), ((0, 1, 3), 1))

    def test_what_is_handed_in_stays(self):
        for train in LONG_TRAINS:
            before = copied(train)
            for stand in stands_by_words(train):
                kept = tuple(list(stand))
                first = pushed(train, stand, 0, 1)
                self.assertEqual(stand, kept)
                self.assertEqual(pushed(train, stand, 0, 1), first)
            self.assertTrue(same_kind(train, before))

    def test_a_train_that_is_changed_is_pushed_anew(self):
        train = [("wheel", 3, (1,))]
        told = pushed(train, (0,), 0, 1)
        train[0] = ("wheel", 3, (2,))
        self.assertEqual(pushed(train, (0,), 0, 1), ((1,), 0))
        self.assertEqual(told, ((1,), 1))


class Stands(unittest.TestCase):
    def test_all_stands_in_order(self):
        for train in TRAINS + FULL_TRAINS:
            right = stands_by_words(train)
            told = stands_of(train)
            self.assertTrue(same_kind(told, right), train)
            self.assertEqual(told, sorted(set(told)))
            self.assertTrue(same_kind(stand_count(train), len(right)), train)

    def test_by_hand(self):
        self.assertEqual(stands_of([("spring", 2), CLICK, ("wheel", 3, (0,))]),
                         [(0, 0, 0), (0, 0, 1), (0, 0, 2), (1, 0, 0), (1, 0, 1), (1, 0, 2)])
        self.assertEqual(stands_of([CLICK]), [(0,)])
        self.assertEqual(stands_of([ROCKER]), [(0,), (1,)])
        self.assertEqual(stand_count([ROCKER, ("wheel", 7, ()), CLICK, ("spring", 5), ROCKER]), 140)

    def test_two_thousand(self):
        for train in FULL_TRAINS:
            self.assertEqual(stand_count(train), 2000)
            self.assertEqual(len(stands_of(train)), 2000)

    def test_what_is_no_train(self):
        for thing in NO_TRAINS:
            self.assertIs(refusal(stand_count, thing), NoTrain, thing)
            self.assertIs(refusal(stands_of, thing), NoTrain, thing)

    def test_a_told_list_is_the_askers_own(self):
        train = [ROCKER, ("wheel", 3, (0,))]
        told = stands_of(train)
        kept = list(told)
        told[0] = "changed"
        told.append(None)
        again = stands_of(train)
        self.assertIsNot(again, told)
        self.assertEqual(again, kept)
        stands_of(train).clear()
        self.assertEqual(again, kept)
        self.assertEqual(stand_count(train), 6)

    def test_what_is_handed_in_stays_and_may_change_later(self):
        train = [ROCKER, ("wheel", 3, (0,))]
        before = copied(train)
        told = stands_of(train)
        stand_count(train)
        check_train(train)
        check_stand(train, (0, 0))
        self.assertTrue(same_kind(train, before))
        train.append(ROCKER)
        self.assertEqual(len(told), 6)
        self.assertEqual(len(stands_of(train)), 12)
        self.assertEqual(stand_count(train), 12)


class Refusals(unittest.TestCase):
    def test_all_are_train_errors(self):
        for ask, handed in [(check_train, ([],)), (check_stand, ([], ())), (check_stand, ([CLICK], ())),
                            (stand_count, ([],)), (stands_of, ([],))]:
            with self.assertRaises(TrainError):
                ask(*handed)


if __name__ == "__main__":
    unittest.main()
