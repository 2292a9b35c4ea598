"""Points 2, 4, 5, 9 and 10: clicktrain/alike.py."""

import inspect
import random
import unittest

from clicktrain import alike
from clicktrain.alike import row_round, rows_alike
from clicktrain.errors import NoRow, NoTrain, TrainError
from tests.plain import (CLICK, FULL_TRAINS, HUGE, LONG_TRAINS, NO_TRAINS, ROCKER, TRAINS, asked_twice, drawn_train,
                         no_rows, refusal, row_by_rounds, row_by_words, rows_for, same_kind, stands_by_words)


def alike_by_words(train, one, other, does):
    """Stand by stand in order; does tells what a row leaves."""
    for stand in stands_by_words(train):
        if does(train, stand, one) != does(train, stand, other):
            return "apart", stand
    return ("alike",)


def round_by_words(train, row, does):
    """The row done once more and once more at all stands, until what it leaves of all of them comes again."""
    stands = stands_by_words(train)
    after = {stand: does(train, stand, row)[0] for stand in stands}
    left = [tuple(stands)]
    met = {left[0]: 0}
    while True:
        behind = tuple(after[stand] for stand in left[-1])
        if behind in met:
            return met[behind], len(left) - met[behind]
        met[behind] = len(left)
        left.append(behind)


def great_rows(train, seed, many, longest):
    """Rows with times of one to forty figures."""
    draw = random.Random(seed)
    return [[(draw.randrange(len(train)), draw.choice((1, -1)), draw.randint(0, 10 ** draw.randint(1, 40) - 1))
             for deed in range(draw.randint(0, longest))] for number in range(many)]


def all_rounds(train):
    """A number of times that brings each wheel and spring round, wherever it stands."""
    count = 1
    for part in train:
        count *= part[1] if len(part) > 1 else 2
    return count


def near_rows(draw, train, row):
    """Rows that act like the row, or almost so."""
    cut = draw.randint(0, len(row))
    i, way, times = draw.randrange(len(train)), draw.choice((1, -1)), draw.randint(0, 3)
    found = [list(row), row[:cut] + [(i, way, 0)] + row[cut:], row[:cut] + [(i, 1, times), (i, -1, times)] + row[cut:],
             row[:cut] + [(i, way, all_rounds(train))] + row[cut:], row[::-1], row + [(i, way, 1)]]
    if row:
        at = draw.randrange(len(row))
        i, way, times = row[at]
        part = draw.randint(0, times)
        found.append(row[:at] + [(i, way, part), (i, way, times - part)] + row[at + 1:])
        found.append(row[:at] + [(i, way, times + all_rounds(train))] + row[at + 1:])
        found.append(row[:at] + row[at + 1:])
    return found


class Interface(unittest.TestCase):
    def test_names_and_arguments(self):
        told = {"rows_alike": ["train", "one", "other"], "row_round": ["train", "row"]}
        for name, arguments in told.items():
            function = getattr(alike, name)
            self.assertEqual(function.__module__, "clicktrain.alike")
            self.assertEqual(list(inspect.signature(function).parameters), arguments)


class RowsAlike(unittest.TestCase):
    def hold(self, train, one, other, does=row_by_words):
        told = rows_alike(train, one, other)
        right = alike_by_words(train, one, other, does)
        self.assertTrue(same_kind(told, right), (train, one, other, told, right))
        self.assertTrue(same_kind(rows_alike(train, other, one), right), (train, other, one))
        return right

    def test_drawn_rows_of_few_times(self):
        for seed, train in enumerate(TRAINS):
            rows = rows_for(train, seed + 300, 4, 3, 4)
            for one in rows:
                for other in rows:
                    self.hold(train, one, other)

    def test_rows_near_to_one_another(self):
        draw = random.Random(901)
        told = []
        for number in range(250):
            train = drawn_train(draw, stands=40)
            row = rows_for(train, number, 1, 4, 5)[0]
            for other in near_rows(draw, train, row):
                told.append(self.hold(train, row, other, row_by_rounds))
        later = [answer for answer in told if answer != ("alike",) and any(answer[1])]
        self.assertGreater(len([answer for answer in told if answer == ("alike",)]), 500)
        self.assertGreater(len(told) - told.count(("alike",)), 300)
        self.assertGreater(len(later), 40)

    def test_drawn_rows_of_many_figures(self):
        draw = random.Random(902)
        for number in range(120):
            train = drawn_train(draw, stands=40)
            one, other = great_rows(train, number, 2, 4)
            self.hold(train, one, other, row_by_rounds)
            for near in near_rows(draw, train, one):
                self.hold(train, one, near, row_by_rounds)

    def test_long_trains(self):
        draw = random.Random(903)
        for seed, train in enumerate(LONG_TRAINS):
            for one in great_rows(train, seed, 2, 16):
                for other in near_rows(draw, train, one):
                    self.hold(train, one[:16], other[:16], row_by_rounds)

    def test_what_is_shown_on_the_way_may_be_unlike(self):
        train = [("wheel", 4, (1, 2))]
        self.assertEqual(rows_alike(train, [(0, 1, 1), (0, -1, 1)], []), ("alike",))
        self.assertEqual(rows_alike(train, [(0, 1, 4)], []), ("apart", (0,)))
        self.assertEqual(rows_alike(train, [(0, 1, 4), (0, -1, 4)], []), ("alike",))

    def test_sums_alone_tell_apart(self):
        self.assertEqual(rows_alike([CLICK], [(0, 1, 2)], [(0, 1, 3)]), ("apart", (0,)))
        self.assertEqual(rows_alike([CLICK], [(0, -1, 2)], [(0, -1, 3)]), ("alike",))
        self.assertEqual(rows_alike([CLICK], [(0, 1, HUGE)], [(0, 1, HUGE - 1), (0, 1, 1)]), ("alike",))
        self.assertEqual(rows_alike([CLICK], [(0, 1, HUGE)], [(0, 1, HUGE - 1)]), ("apart", (0,)))

    def test_places_alone_tell_apart(self):
        self.assertEqual(rows_alike([("wheel", 3, ())], [(0, 1, 1)], [(0, 1, 2)]), ("apart", (0,)))
        self.assertEqual(rows_alike([("wheel", 3, ())], [(0, 1, 1)], [(0, -1, 2)]), ("alike",))
        self.assertEqual(rows_alike([("wheel", 3, (0,))], [(0, 1, 1)], [(0, -1, 2)]), ("apart", (0,)))

    def test_the_first_stand_by_hand(self):
        # Only a spring that is drawn by 3 or more tells 3 pushes back from 2.
        self.assertEqual(rows_alike([("spring", 6)], [(0, -1, 2)], [(0, -1, 3)]), ("apart", (3,)))
        self.assertEqual(rows_alike([("spring", 3)], [(0, -1, 2)], [(0, -1, 3)]), ("alike",))
        train = [("wheel", 3, ()), ROCKER, ("spring", 5)]
        self.assertEqual(rows_alike(train, [(2, -1, 3)], [(2, -1, 4)]), ("apart", (0, 0, 4)))
        self.assertEqual(rows_alike(train, [(1, -1, 1), (1, 1, 1)], [(1, 1, 1)]), ("apart", (0, 1, 0)))
        self.assertEqual(rows_alike(train, [(1, -1, 1)], [(1, -1, 2)]), ("alike",))
        train = [("spring", 4), ("wheel", 3, (2,))]
        self.assertEqual(rows_alike(train, [(0, 1, 1), (1, -1, 1)], [(1, -1, 1), (0, 1, 1)]), ("alike",))
        self.assertEqual(rows_alike(train, [(0, 1, 1)], [(0, 1, 1), (1, 1, 3), (1, -1, 3)]), ("alike",))

    def test_two_thousand_stands(self):
        draw = random.Random(904)
        for seed, train in enumerate(FULL_TRAINS):
            row = rows_for(train, seed, 1, 5, 6)[0]
            for other in near_rows(draw, train, row)[:3]:
                self.hold(train, row, other)
        self.assertEqual(rows_alike([("spring", 2000)], [(0, -1, 1998)], [(0, -1, HUGE)]), ("apart", (1999,)))
        self.assertEqual(rows_alike([("spring", 2000)], [(0, -1, 1999)], [(0, -1, HUGE)]), ("alike",))
        self.assertEqual(rows_alike([("wheel", 2000, (7,))], [(0, 1, 10 ** 39)], [(0, -1, 0)]), ("apart", (0,)))
        self.assertEqual(rows_alike([("wheel", 2000, ())], [(0, 1, 10 ** 39)], [(0, -1, 0)]), ("alike",))

    def test_refusals(self):
        for thing in NO_TRAINS:
            for one in ([], None, [(0, 1, True)]):
                self.assertIs(refusal(rows_alike, thing, one, []), NoTrain, thing)
                self.assertIs(refusal(rows_alike, thing, [], one), NoTrain, thing)
        for train in [[CLICK], LONG_TRAINS[0], LONG_TRAINS[4]]:
            for thing in no_rows(len(train)):
                self.assertIs(refusal(rows_alike, train, thing, []), NoRow, thing)
                self.assertIs(refusal(rows_alike, train, [], thing), NoRow, thing)
                self.assertIs(refusal(rows_alike, train, [(0, 1, 1)], thing), NoRow, thing)
                self.assertIs(refusal(rows_alike, train, thing, thing), NoRow, thing)
        self.assertTrue(issubclass(NoRow, TrainError))

    def test_a_row_may_have_none_to_sixteen_deeds(self):
        train = LONG_TRAINS[4]
        self.assertEqual(rows_alike(train, [], []), ("alike",))
        self.assertEqual(rows_alike(train, [(7, 1, HUGE)] * 16, [(7, 1, HUGE * 16)]), ("alike",))
        self.assertEqual(rows_alike(train, [(7, 1, 0)] * 16, []), ("alike",))


class RowRound(unittest.TestCase):
    def hold(self, train, row, does=row_by_words):
        told = row_round(train, row)
        right = round_by_words(train, row, does)
        self.assertTrue(same_kind(told, right), (train, row, told, right))
        return right

    def test_drawn_rows_of_few_times(self):
        for seed, train in enumerate(TRAINS):
            for row in rows_for(train, seed + 400, 5, 4, 5) + [[], [(0, 1, 1)], [(0, -1, 1)], [(0, -1, 1), (0, 1, 2)]]:
                self.hold(train, row)

    def test_drawn_trains_and_rows(self):
        draw = random.Random(911)
        told = []
        for number in range(300):
            train = drawn_train(draw, stands=60)
            for row in rows_for(train, number, 2, 5, 3):
                told.append(self.hold(train, row))
        self.assertGreater(len([answer for answer in told if answer[0] > 1]), 20)
        self.assertGreater(len([answer for answer in told if answer[1] > 5]), 20)
        self.assertGreater(len([answer for answer in told if answer[0] > 0 and answer[1] > 1]), 20)

    def test_drawn_rows_of_many_figures(self):
        draw = random.Random(912)
        for number in range(150):
            train = drawn_train(draw, stands=40)
            for row in great_rows(train, number, 2, 5):
                self.hold(train, row, row_by_rounds)

    def test_long_trains(self):
        for seed, train in enumerate(LONG_TRAINS):
            for row in great_rows(train, seed + 30, 3, 16):
                self.hold(train, row, row_by_rounds)

    def test_by_hand(self):
        self.assertEqual(row_round([CLICK], []), (0, 1))
        self.assertEqual(row_round([CLICK], [(0, 1, HUGE)]), (0, 1))
        self.assertEqual(row_round([ROCKER], [(0, 1, 1)]), (1, 1))
        self.assertEqual(row_round([ROCKER], [(0, 1, 0)]), (0, 1))
        self.assertEqual(row_round([("wheel", 12, (0,))], [(0, 1, 8)]), (0, 3))
        self.assertEqual(row_round([("wheel", 12, (0,))], [(0, -1, 5)]), (0, 12))
        self.assertEqual(row_round([("wheel", 1, (0,))], [(0, -1, 5)]), (0, 1))
        self.assertEqual(row_round([("spring", 9)], [(0, -1, 2)]), (4, 1))
        self.assertEqual(row_round([("spring", 9)], [(0, -1, 1)]), (8, 1))
        self.assertEqual(row_round([("spring", 9)], [(0, 1, 6)]), (0, 3))
        # The wheel's 3 and the spring's 5 are gone round together by 15, the ahead is the rocker's.
        train = [("wheel", 3, ()), ROCKER, ("spring", 5)]
        self.assertEqual(row_round(train, [(0, 1, 1), (2, 1, 1)]), (0, 15))
        self.assertEqual(row_round(train, [(0, 1, 1), (1, 1, 1)]), (1, 3))
        self.assertEqual(row_round([("wheel", 4, ()), ("wheel", 6, ())], [(0, 1, 1), (1, 1, 1)]), (0, 12))

    def test_sums_do_not_count(self):
        self.assertEqual(row_round([CLICK], [(0, 1, 5)]), (0, 1))
        self.assertEqual(row_round([("wheel", 5, (0,))], [(0, 1, 5)]), (0, 1))

    def test_rounds_of_unlike_stands_are_brought_together(self):
        # Begun at some places the first wheel moves the second, at others it does not; all counts.
        train = [("wheel", 4, (0, 1)), ("wheel", 9, (0,)), ("spring", 7)]
        for row in ([(0, 1, 2)], [(0, 1, 2), (2, 1, 3)], [(0, -1, 2), (2, -1, 1)], [(0, 1, 4), (2, 1, 1)]):
            self.hold(train, row)

    def maps_done(self, after, times):
        """What is left of all stands by so many times, by doubling."""
        done = {stand: stand for stand in after}
        twice = dict(after)
        while times > 0:
            if times % 2:
                done = {stand: twice[done[stand]] for stand in done}
            twice = {stand: twice[twice[stand]] for stand in twice}
            times //= 2
        return done

    def test_two_thousand_stands(self):
        for seed, train in enumerate(FULL_TRAINS + [[("wheel", 3, ()), ("wheel", 5, ()), ("wheel", 7, ()),
                                                     ("wheel", 11, ()), CLICK]]):
            for row in rows_for(train, seed + 80, 2, 6, 9) + [[(i, 1, 1) for i in range(len(train))]]:
                ahead, turn = row_round(train, row)
                after = {stand: row_by_words(train, stand, row)[0] for stand in stands_by_words(train)}
                kept = self.maps_done(after, ahead)
                self.assertEqual(kept, self.maps_done(after, ahead + turn))
                if ahead > 0:
                    self.assertNotEqual(self.maps_done(after, ahead - 1), self.maps_done(after, ahead - 1 + turn))
                for prime in [prime for prime in range(2, 2000) if turn % prime == 0
                              and all(prime % less for less in range(2, prime))]:
                    self.assertNotEqual(kept, self.maps_done(after, ahead + turn // prime))
        self.assertEqual(row_round([("spring", 2000)], [(0, -1, 1)]), (1999, 1))
        self.assertEqual(row_round([("wheel", 2000, ())], [(0, 1, 10 ** 39 + 1)]), (0, 2000))
        self.assertEqual(row_round([("wheel", part, ()) for part in (3, 5, 7, 11)], [(i, 1, 1) for i in range(4)]),
                         (0, 1155))

    def test_refusals(self):
        for thing in NO_TRAINS:
            for row in ([], None, [(0, 1, True)]):
                self.assertIs(refusal(row_round, thing, row), NoTrain, thing)
        for train in [[CLICK], LONG_TRAINS[0], LONG_TRAINS[4]]:
            for thing in no_rows(len(train)):
                self.assertIs(refusal(row_round, train, thing), NoRow, thing)


class HandedIn(unittest.TestCase):
    def test_what_is_handed_in_stays_and_asked_again_tells_the_same(self):
        for seed, train in enumerate(LONG_TRAINS):
            for one in rows_for(train, seed, 3, 6, 9):
                asked_twice(row_round, train, one)
                for other in rows_for(train, seed + 1, 2, 6, 9):
                    asked_twice(rows_alike, train, one, other)

    def test_what_is_changed_later_is_told_anew(self):
        train, one, other = [("spring", 4)], [(0, -1, 1)], [(0, -1, 2)]
        self.assertEqual(rows_alike(train, one, other), ("apart", (2,)))
        self.assertEqual(row_round(train, one), (3, 1))
        one.append((0, -1, 1))
        self.assertEqual(rows_alike(train, one, other), ("alike",))
        self.assertEqual(row_round(train, one), (2, 1))
        train[0] = ("spring", 3)
        self.assertEqual(row_round(train, one), (1, 1))


if __name__ == "__main__":
    unittest.main()
