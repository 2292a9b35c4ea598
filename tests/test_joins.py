"""Points 2, 3, 5 and 28 to 33: clicktrain/joins.py."""

import inspect
import itertools
import random
import unittest

from clicktrain import joins
from clicktrain.errors import NoPushes, NoStand, NoTrain, NoWheel
from clicktrain.joins import fed, joined, least_wheel, one_way, pairs_together, parted, spare, together
from clicktrain.rows import left
from clicktrain.shows import shows_alike, trains_alike
from clicktrain.worn import worn
from tests.plain import (CLICK, FULL_TRAINS, HUGE, LONG_TRAINS, NO_NUMBERS, NO_TRAINS, PARTS, ROCKER, TRAINS,
                         asked_twice, drawn_stand, drawn_train, no_stands, push_by_words, refusal, same_kind,
                         size_of, stands_by_words)


def fed_by_words(train, stand, signs):
    shown = []
    for sign in signs:
        if sign in (1, -1):
            stand, gives = push_by_words(train, stand, 0, sign)
            shown.append(gives)
        else:
            shown.append(0)
    return stand, shown


def drawn_signs(draw, most=12):
    return [draw.choice((1, 1, -1, 0)) for sign in range(draw.randint(0, most))]


def drawn_wheels(draw, longest=3, most=6, stands=150):
    while True:
        train = drawn_train(draw, longest, most, stands)
        if all(part[0] == "wheel" for part in train):
            return train


def ring_by_words(train, stand):
    """What is shown at pushes by 1, from the stand until it comes again."""
    shown, here = [], stand
    while True:
        here, gives = push_by_words(train, here, 0, 1)
        shown.append(gives)
        if here == stand:
            return shown


def least_wheel_by_words(train, stand):
    shown = ring_by_words(train, stand)
    for teeth in range(1, len(shown) + 1):
        # The ring goes on without end: each one holds against the one so many pushes ahead.
        if all(shown[at] == shown[(at + teeth) % len(shown)] for at in range(len(shown))):
            marks = [place for place in range(teeth) if shown[(place - 1) % teeth] == 1]
            return "wheel", teeth, tuple(marks)


def shows_alike_by_words(train, stand, other, there):
    """No list of pushes to the first parts tells them apart."""
    come, new = {(stand, there)}, [(stand, there)]
    while new:
        here, over = new.pop()
        for way in (1, -1):
            after, shown = push_by_words(train, here, 0, way)
            beyond, shown_there = push_by_words(other, over, 0, way)
            if shown != shown_there:
                return False
            if (after, beyond) not in come:
                come.add((after, beyond))
                new.append((after, beyond))
    return True


def without(thing, i):
    return thing[:i] + thing[i + 1:]


def spare_by_words(train, stand):
    if len(train) == 1:
        return []
    return [i for i in range(len(train))
            if shows_alike_by_words(without(train, i), without(stand, i), train, stand)]


def ever_shows_back(train):
    """Whether some signs at some stand show -1; what comes of any stand is a stand, so one sign is enough."""
    return any(push_by_words(train, stand, 0, way)[1] == -1 for stand in stands_by_words(train) for way in (1, -1))


def no_signs():
    found = [None, True, False, 0, 1, "", "+", (), (1,), [None], ["+"], [()], [[]], [[1]], [(1,)], [2], [-2], [HUGE],
             [1, 2], [1, None], [None, 1], [0, 0, True], [1] * 299 + [False], [1] * 400 + ["0"], [(0, 1)], [1, [0]]]
    return found + [[wrong] for wrong in NO_NUMBERS] + [[0, wrong, 1] for wrong in NO_NUMBERS]


class Interface(unittest.TestCase):
    def test_names_and_arguments(self):
        told = {"joined": ["one", "other"], "together": ["one", "here", "other", "there"],
                "parted": ["one", "other", "stand"], "fed": ["train", "stand", "signs"],
                "least_wheel": ["train", "stand"], "one_way": ["train"], "spare": ["train", "stand"],
                "pairs_together": ["pairs", "others"]}
        for name, arguments in told.items():
            function = getattr(joins, name)
            self.assertEqual(function.__module__, "clicktrain.joins")
            self.assertEqual(list(inspect.signature(function).parameters), arguments)


class Joined(unittest.TestCase):
    def test_drawn_trains_and_stands(self):
        draw = random.Random(2801)
        for number in range(300):
            one, other = drawn_train(draw), drawn_train(draw)
            here, there = drawn_stand(draw, one), drawn_stand(draw, other)
            whole, stand = joined(one, other), together(one, here, other, there)
            self.assertTrue(same_kind(whole, [*one, *other]))
            self.assertTrue(same_kind(stand, (*here, *there)))
            self.assertTrue(same_kind(parted(one, other, stand), (here, there)))

    def test_by_hand(self):
        self.assertEqual(joined([CLICK], [ROCKER, CLICK]), [CLICK, ROCKER, CLICK])
        self.assertEqual(together([CLICK], (0,), [ROCKER, ("spring", 4)], (1, 3)), (0, 1, 3))
        self.assertEqual(parted([CLICK], [ROCKER, ("spring", 4)], (0, 1, 3)), ((0,), (1, 3)))
        self.assertEqual(parted([CLICK, ROCKER], [("spring", 4)], (0, 1, 3)), ((0, 1), (3,)))

    def test_one_train_twice(self):
        train = [("wheel", 3, (0,)), ROCKER]
        whole = joined(train, train)
        self.assertEqual(whole, train * 2)
        self.assertEqual(together(train, (2, 1), train, (0, 0)), (2, 1, 0, 0))
        self.assertEqual(parted(train, train, (2, 1, 0, 0)), ((2, 1), (0, 0)))
        self.assertEqual(train, [("wheel", 3, (0,)), ROCKER])

    def test_of_very_many_stands_and_sixteen_parts(self):
        train = [("wheel", HUGE, (0, 5)), ("spring", HUGE)] * 4
        stand = (HUGE - 1, 0) * 4
        self.assertEqual(len(joined(train, train)), 16)
        self.assertEqual(together(train, stand, train, stand), stand * 2)
        self.assertEqual(parted(train, train, stand * 2), (stand, stand))

    def test_refusals_in_their_turn(self):
        good, stand = [("wheel", 3, (0,)), ROCKER], (2, 1)
        for thing in NO_TRAINS:
            for other in (good, None, []):
                self.assertIs(refusal(joined, thing, other), NoTrain, thing)
                self.assertIs(refusal(parted, thing, other, None), NoTrain, thing)
                self.assertIs(refusal(together, thing, None, other, None), NoTrain, thing)
            self.assertIs(refusal(joined, good, thing), NoTrain, thing)
            for wrong in (stand, None, (2, 1, 0, 0), ()):
                self.assertIs(refusal(parted, good, thing, wrong), NoTrain, thing)
            self.assertIs(refusal(together, good, stand, thing, None), NoTrain, thing)
            self.assertIs(refusal(together, good, stand, thing, stand), NoTrain, thing)
            self.assertIs(refusal(together, good, (3, 0), thing, stand), NoStand, thing)
        for wrong in no_stands(good):
            self.assertIs(refusal(together, good, wrong, good, stand), NoStand, wrong)
            self.assertIs(refusal(together, good, wrong, None, None), NoStand, wrong)
            self.assertIs(refusal(together, good, stand, good, wrong), NoStand, wrong)
        for wrong in no_stands(good + good):
            self.assertIs(refusal(parted, good, good, wrong), NoStand, wrong)
        self.assertIs(refusal(parted, good, good, stand), NoStand)
        self.assertIs(refusal(parted, good, good, (stand, stand)), NoStand)


class Fed(unittest.TestCase):
    def test_drawn_trains(self):
        draw = random.Random(2901)
        for train in TRAINS[::7] + LONG_TRAINS + FULL_TRAINS + [drawn_train(draw) for number in range(200)]:
            for number in range(3):
                stand, signs = drawn_stand(draw, train), drawn_signs(draw)
                self.assertTrue(same_kind(fed(train, stand, signs), fed_by_words(train, stand, signs)))

    def test_a_joined_train_is_one_fed_with_the_other(self):
        draw = random.Random(2902)
        seen = 0
        for number in range(300):
            one, other = drawn_train(draw), drawn_train(draw)
            here, there, signs = drawn_stand(draw, one), drawn_stand(draw, other), drawn_signs(draw)
            told = fed(joined(one, other), together(one, here, other, there), signs)
            here, given = fed(one, here, signs)
            there, shown = fed(other, there, given)
            self.assertEqual(told, (together(one, here, other, there), shown))
            seen += any(shown)
        self.assertGreater(seen, 40)

    def test_by_hand(self):
        self.assertEqual(fed([CLICK], (0,), []), ((0,), []))
        self.assertEqual(fed([CLICK], (0,), [1, 0, -1, 1]), ((0,), [1, 0, 0, 1]))
        self.assertEqual(fed([("wheel", 2, (1,))], (0,), [1, 0, -1, -1, -1]), ((0,), [1, 0, -1, 0, -1]))
        self.assertEqual(fed([ROCKER], (0,), [0, 0, 1, 1, -1, 0, 1]), ((1,), [0, 0, 1, 0, 0, 0, 1]))
        self.assertEqual(fed([("spring", 2), ("wheel", 3, (1,))], (1, 0), [1, 1, 1]), ((0, 2), [1, 0, 0]))

    def test_many_signs_and_stands(self):
        train = [("wheel", HUGE, (0, 150)), ("spring", HUGE)]
        self.assertEqual(fed(train, (0, HUGE - 1), [1] * 300), ((300, 0), [0] * 149 + [1] + [0] * 150))
        self.assertEqual(fed(train, (0, 7), [-1] * 300), ((HUGE - 300, 6), [0] * 300))
        told = fed([CLICK], (0,), [1, -1] * 1000)[1]
        self.assertEqual(fed([CLICK], (0,), told), ((0,), told))

    def test_refusals_in_their_turn(self):
        for thing in NO_TRAINS:
            for stand, signs in [((0,), []), (None, None), ((9,), [2])]:
                self.assertIs(refusal(fed, thing, stand, signs), NoTrain, thing)
        for train in LONG_TRAINS[:4] + [[CLICK]]:
            stand = tuple(0 for part in train)
            for wrong in no_stands(train):
                for signs in ([], [1], None, [True]):
                    self.assertIs(refusal(fed, train, wrong, signs), NoStand, wrong)
            for signs in no_signs():
                self.assertIs(refusal(fed, train, stand, signs), NoPushes, signs)
            for signs in ([], [1], [-1], [0], [1, -1, 0] * 100):
                self.assertIsNone(refusal(fed, train, stand, signs))


class LeastWheel(unittest.TestCase):
    def hold(self, train, stand):
        told = least_wheel(train, stand)
        self.assertTrue(same_kind(told, least_wheel_by_words(train, stand)), (train, stand, told))
        return told

    def test_single_wheels_at_all_stands(self):
        for teeth in range(1, 8):
            for many in range(teeth + 1):
                for marks in itertools.combinations(range(teeth), many):
                    for place in range(teeth):
                        self.hold([("wheel", teeth, marks)], (place,))

    def test_two_wheels_at_all_stands(self):
        wheels = [("wheel", teeth, marks) for teeth in range(1, 5) for many in range(teeth + 1)
                  for marks in itertools.combinations(range(teeth), many)]
        for one in wheels:
            for other in wheels[::3]:
                for stand in stands_by_words([one, other]):
                    self.hold([one, other], stand)

    def test_drawn_wheels(self):
        draw = random.Random(3001)
        sizes = []
        for number in range(300):
            train = drawn_wheels(draw, longest=5, most=8, stands=2000)
            stand = drawn_stand(draw, train)
            told = self.hold(train, stand)
            sizes.append(told[1])
            self.assertEqual(trains_alike([told], (0,), train, stand)[0], "alike")
            self.assertTrue(shows_alike_by_words([told], (0,), train, stand))
        self.assertGreater(len([size for size in sizes if size > 30]), 15)

    def test_no_wheel_of_fewer_teeth_shows_alike(self):
        draw = random.Random(3002)
        for number in range(60):
            train = drawn_wheels(draw, longest=3, most=4, stands=30)
            stand = drawn_stand(draw, train)
            word, teeth, marks = least_wheel(train, stand)
            for fewer in range(1, min(teeth, 8)):
                for many in range(fewer + 1):
                    for some in itertools.combinations(range(fewer), many):
                        self.assertFalse(shows_alike_by_words([("wheel", fewer, some)], (0,), train, stand))

    def test_by_hand(self):
        self.assertEqual(least_wheel([("wheel", 12, (0, 3, 6, 9))], (0,)), ("wheel", 3, (0,)))
        self.assertEqual(least_wheel([("wheel", 12, (0, 3, 6, 9))], (1,)), ("wheel", 3, (2,)))
        self.assertEqual(least_wheel([("wheel", 5, (0, 1, 2, 3, 4))], (3,)), ("wheel", 1, (0,)))
        self.assertEqual(least_wheel([("wheel", 5, ())], (3,)), ("wheel", 1, ()))
        self.assertEqual(least_wheel([("wheel", 5, (2,))], (2,)), ("wheel", 5, (0,)))
        self.assertEqual(least_wheel([("wheel", 2, (0,)), ("wheel", 3, (1,))], (0, 0)), ("wheel", 6, (2,)))
        self.assertEqual(least_wheel([("wheel", 2, (0,)), ("wheel", 3, (0,))], (0, 0)), ("wheel", 6, (0,)))
        self.assertEqual(least_wheel([("wheel", 2, (0,)), ("wheel", 3, ())], (0, 0)), ("wheel", 1, ()))
        self.assertEqual(least_wheel([("wheel", 2, ()), ("wheel", 3, (0,))], (0, 0)), ("wheel", 1, ()))
        # Four of six pass on, and of these each second one: a ring of one turn.
        self.assertEqual(least_wheel([("wheel", 6, (0, 1, 2, 3)), ("wheel", 2, (0,))], (0, 0)), ("wheel", 6, (0, 2)))

    def test_full_trains_of_wheels(self):
        self.hold([("wheel", 2000, (0, 7, 1999))], (5,))
        self.hold([("wheel", 2000, tuple(range(0, 2000, 50)))], (1999,))
        self.hold([("wheel", 10, (0, 9)), ("wheel", 20, (3, 13)), ("wheel", 10, (0, 5, 6))], (4, 7, 9))
        self.hold([("wheel", 40, tuple(range(40))), ("wheel", 50, tuple(range(40)))], (17, 49))
        self.hold([("wheel", 3, (0, 1)), ("wheel", 5, (0, 2, 4)), ("wheel", 7, (0, 1, 2, 5)), ("wheel", 11, (3,))],
                  (0, 1, 2, 3))

    def test_told_trains_of_very_many_stands(self):
        train = joined([("wheel", 43, (0, 5)), ("wheel", 41, (3,))], [("wheel", 47, (0, 9)), ("wheel", 37, (1, 2))])
        stand = (4, 40, 46, 36)
        told = least_wheel(train, stand)
        self.assertEqual(told[:2], ("wheel", 43 * 41 * 47 * 37))
        self.assertEqual(len(told[2]), 2 * 1 * 2 * 2)
        # What so many pushes show in all, told by left, rises by one at each mark and nowhere else.
        for mark in told[2]:
            pushes = mark if mark else told[1]
            sums = [left(train, stand, [(0, 1, times)])[1] for times in (pushes - 1, pushes)]
            self.assertEqual(sums[1] - sums[0], 1)
        for turns in (1, 2, 10 ** 30):
            self.assertEqual(left(train, stand, [(0, 1, turns * told[1])]), (stand, turns * len(told[2])))
        wide = worn([("wheel", HUGE, (0, 5, 9))], (0, 5))
        self.assertEqual(least_wheel(wide, (0,)), ("wheel", HUGE, (0, 9)))
        self.assertEqual(least_wheel(wide, (9,)), ("wheel", HUGE, (0, HUGE - 9)))
        half = worn([("wheel", 2 * 10 ** 39, (1, 4, 10 ** 39 + 4))], (0, 1))
        self.assertEqual(least_wheel(half, (3,)), ("wheel", 10 ** 39, (1,)))

    def test_refusals_in_their_turn(self):
        for thing in NO_TRAINS:
            for stand in ((0,), None):
                self.assertIs(refusal(least_wheel, thing, stand), NoTrain, thing)
        for train in [train for train in TRAINS if any(part[0] != "wheel" for part in train)]:
            stand = tuple(0 for part in train)
            self.assertIs(refusal(least_wheel, train, stand), NoWheel, train)
            self.assertIs(refusal(least_wheel, train, stand + (0,)), NoStand, train)
        for train in LONG_TRAINS:
            for wrong in no_stands(train):
                self.assertIs(refusal(least_wheel, train, wrong), NoStand, wrong)


class OneWay(unittest.TestCase):
    def test_all_stands_gone_through(self):
        told = set()
        for train in TRAINS:
            self.assertIs(one_way(train), not ever_shows_back(train), train)
            told.add(one_way(train))
        self.assertEqual(told, {True, False})

    def test_drawn_trains_fed_with_drawn_signs(self):
        draw = random.Random(3101)
        for number in range(150):
            train = drawn_train(draw)
            self.assertIs(one_way(train), not ever_shows_back(train), train)
            shown = fed_by_words(train, drawn_stand(draw, train), drawn_signs(draw, 40))[1]
            self.assertFalse(one_way(train) and -1 in shown)

    def test_by_hand_and_very_many_stands(self):
        for train, right in [([CLICK], True), ([ROCKER], True), ([("spring", 1)], True), ([("wheel", 3, ())], True),
                             ([("wheel", 3, (0,))], False), ([("wheel", HUGE, (HUGE - 1,))] * 8, False),
                             ([("wheel", HUGE, (0,))] * 7 + [("spring", HUGE)], True),
                             ([("wheel", HUGE, (0,))] * 16, False), ([("wheel", HUGE, (0,)), ("wheel", 1, ())], True)]:
            self.assertIs(one_way(train), right, train)

    def test_refusals(self):
        for thing in NO_TRAINS:
            self.assertIs(refusal(one_way, thing), NoTrain, thing)


class Spare(unittest.TestCase):
    def hold(self, train, stand):
        told = spare(train, stand)
        self.assertTrue(same_kind(told, spare_by_words(train, stand)), (train, stand, told))
        return told

    def test_two_parts_at_all_stands(self):
        for one in PARTS:
            for other in PARTS:
                for stand in stands_by_words([one, other]):
                    self.hold([one, other], stand)

    def test_drawn_trains(self):
        draw = random.Random(3201)
        told = []
        for number in range(400):
            train = drawn_train(draw, longest=5, most=3, stands=60)
            told.append(self.hold(train, drawn_stand(draw, train)))
        self.assertGreater(len([answer for answer in told if len(answer) > 1]), 80)
        self.assertGreater(len([answer for answer in told if len(answer) == 1]), 30)
        self.assertGreater(len([answer for answer in told if not answer]), 80)

    def test_long_trains(self):
        draw = random.Random(3202)
        for train in LONG_TRAINS:
            for number in range(3):
                self.hold(train, drawn_stand(draw, train))

    def test_by_hand(self):
        self.assertEqual(spare([CLICK], (0,)), [])
        self.assertEqual(spare([("wheel", 1, (0,))], (0,)), [])
        self.assertEqual(spare([CLICK, CLICK], (0, 0)), [0, 1])
        self.assertEqual(spare([CLICK, ROCKER], (0, 0)), [])
        self.assertEqual(spare([ROCKER, CLICK], (0, 0)), [1])
        self.assertEqual(spare([("wheel", 3, (0,)), ("wheel", 1, (0,)), ("spring", 1)], (0, 0, 0)), [1])
        self.assertEqual(spare([("wheel", 3, ()), ("wheel", 5, ())], (0, 0)), [0, 1])
        self.assertEqual(spare([ROCKER, ROCKER], (0, 1)), [])
        self.assertEqual(spare([ROCKER, ROCKER], (0, 0)), [])
        # The second rocker is never set back, so all that it does is to let the first push by.
        self.assertEqual(spare([("spring", 2), CLICK, ("spring", 1), ("wheel", 1, (0,))], (0,) * 4), [1, 2, 3])

    def test_told_trains_of_very_many_stands(self):
        # Without one of them it soon shows unlike.
        train = joined([("wheel", 2000, (0, 2))], [("wheel", 2000, (1, 3)), ("spring", 1), CLICK])
        self.assertEqual(spare(train[:2], (0, 0)), [])
        train = worn([("wheel", HUGE, (1, 2)), CLICK], (0, 2))
        self.assertEqual(spare(train, (0, 0)), [])
        self.assertEqual(spare(joined([("wheel", 3, (0,))], [("wheel", 1, (0,))] * 8), (0,) * 9), list(range(1, 9)))
        self.assertEqual(spare(joined([CLICK] * 8, [CLICK] * 8), (0,) * 16), list(range(16)))

    def test_refusals_in_their_turn(self):
        for thing in NO_TRAINS:
            for stand in ((0,), None):
                self.assertIs(refusal(spare, thing, stand), NoTrain, thing)
        for train in LONG_TRAINS[:4] + [[CLICK]]:
            for wrong in no_stands(train):
                self.assertIs(refusal(spare, train, wrong), NoStand, wrong)


class PairsTogether(unittest.TestCase):
    def test_by_hand(self):
        self.assertEqual(pairs_together([], []), ("alike", []))
        self.assertEqual(pairs_together([((0,), (0,))], []), ("alike", []))
        self.assertEqual(pairs_together([], [((0,), (0,))]), ("alike", []))
        self.assertEqual(pairs_together([((0,), (1,))], [((2,), (3, 4))]), ("alike", [((0, 2), (1, 3, 4))]))
        self.assertEqual(pairs_together([((1,), (0,)), ((0,), (1,)), ((1,), (0,))], [((5,), (6,)), ((3,), (4,))]),
                         ("alike", [((0, 3), (1, 4)), ((0, 5), (1, 6)), ((1, 3), (0, 4)), ((1, 5), (0, 6))]))
        # Unlike ones may be put together to the same pair.
        self.assertEqual(pairs_together([((0,), (0,)), ((0, 0), (0, 0))], [((0, 0), (0, 0)), ((0,), (0,))]),
                         ("alike", [((0,) * 2,) * 2, ((0,) * 3,) * 2, ((0,) * 4,) * 2]))

    def test_drawn_lists(self):
        draw = random.Random(3301)
        for number in range(200):
            lists = []
            for which in range(2):
                one, other = drawn_train(draw), drawn_train(draw)
                lists.append([(drawn_stand(draw, one), drawn_stand(draw, other)) for pair in range(draw.randint(0, 8))])
            right = []
            for here, there in lists[0]:
                for mine, its in lists[1]:
                    pair = (here + mine, there + its)
                    if pair not in right:
                        right.append(pair)
            self.assertTrue(same_kind(pairs_together(*lists), ("alike", sorted(right))))

    def test_papers_put_together_are_let_by(self):
        draw = random.Random(3302)
        held = 0
        while held < 60:
            asked = []
            for which in range(2):
                train = drawn_train(draw, longest=3, most=4, stands=12)
                stand = drawn_stand(draw, train)
                at = draw.randrange(1, len(train) + 1)
                more = draw.choice([("wheel", 1, (0,)), CLICK, ("spring", 1)])
                asked.append((train, stand, train[:at] + [more] + train[at:], stand[:at] + (0,) + stand[at:]))
            told = [trains_alike(*one) for one in asked]
            if any(answer[0] == "apart" or len(answer[1]) > 40 for answer in told):
                continue
            held += 1
            (one, here, its, over), (other, there, last, beyond) = asked
            paper = pairs_together(told[0][1][::-1], told[1][1] + told[1][1][:2])
            self.assertIs(shows_alike(joined(one, other), together(one, here, other, there), joined(its, last),
                                      together(its, over, last, beyond), paper), True)

    def test_forty_pairs_each(self):
        lists = [[((place,), (place % 7,)) for place in range(40)],
                 [((3, place), (place,)) for place in range(39, -1, -1)]]
        word, pairs = pairs_together(*lists)
        self.assertEqual((word, len(pairs)), ("alike", 1600))
        self.assertEqual(pairs, sorted(pairs))


class HandedIn(unittest.TestCase):
    def test_lists_are_the_askers_own(self):
        draw = random.Random(3401)
        for number in range(60):
            one, other = drawn_train(draw, stands=30), drawn_train(draw, stands=30)
            here, there = drawn_stand(draw, one), drawn_stand(draw, other)
            whole = asked_twice(joined, one, other)
            stand = asked_twice(together, one, here, other, there)
            asked_twice(parted, one, other, stand)
            asked_twice(fed, whole, stand, drawn_signs(draw))
            asked_twice(one_way, whole)
            asked_twice(spare, one, here)
            wheels = drawn_wheels(draw)
            asked_twice(least_wheel, wheels, drawn_stand(draw, wheels))
            asked_twice(pairs_together, [(here, there)] * 2, [(there, here), (here, here)])

    def test_what_is_changed_later_is_told_anew(self):
        one, other, signs = [CLICK], [ROCKER], [1, 0]
        whole, told = joined(one, other), fed(one, (0,), signs)
        one[0], signs[1] = ("wheel", 2, ()), 1
        self.assertEqual(whole, [CLICK, ROCKER])
        self.assertEqual(told, ((0,), [1, 0]))
        self.assertEqual(fed(one, (0,), signs), ((0,), [0, 0]))
        self.assertEqual(size_of(joined(one, other)[0]), 2)


if __name__ == "__main__":
    unittest.main()
