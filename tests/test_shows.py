"""Points 2, 4, 5, 11 and 12: clicktrain/shows.py."""

import inspect
import itertools
import random
import unittest

from clicktrain import shows
from clicktrain.errors import NoStand, NoTrain
from clicktrain.shows import shows_alike, trains_alike
from tests.plain import (CLICK, HUGE, LONG_TRAINS, NO_PAPERS, NO_TRAINS, PARTS, ROCKER, asked_twice, drawn_stand,
                         drawn_train, has_form, is_way, list_of, no_stands, push_by_words, refusal, same_kind,
                         some_bent, stand_form, stands_by_words)

WAYS = (1, -1)


def both_pushed(train, other, pair, way):
    """The next pair, and what is shown of both."""
    stand, shown = push_by_words(train, pair[0], 0, way)
    there, shown_there = push_by_words(other, pair[1], 0, way)
    return (stand, there), (shown, shown_there)


def shown_unlike(train, other, pair, pushes):
    """At the last of the pushes unlike is shown."""
    both = (0, 0)
    for way in pushes:
        pair, both = both_pushed(train, other, pair, way)
    return both[0] != both[1]


def ends_unlike(train, other, pair, many, known):
    """Some list of just so many pushes shows unlike at the last one."""
    if (pair, many) not in known:
        after = [both_pushed(train, other, pair, way) for way in WAYS]
        known[pair, many] = (any(both[0] != both[1] for to, both in after) if many == 1
                             else any(ends_unlike(train, other, to, many - 1, known) for to, both in after))
    return known[pair, many]


def pairs_that_come(train, other, pair):
    come = {pair}
    while True:
        more = {both_pushed(train, other, one, way)[0] for one in come for way in WAYS} - come
        if not more:
            return come
        come |= more


def alike_by_words(train, stand, other, there):
    come = pairs_that_come(train, other, (stand, there))
    if not any(shown_unlike(train, other, pair, [way]) for pair in come for way in WAYS):
        return "alike", sorted(come)
    known = {}
    pair, pushes, many = (stand, there), [], 1
    while not ends_unlike(train, other, pair, many, known):
        many += 1
    # The first list: by 1 wherever so many pushes can still show unlike at the last one.
    for rest in range(many - 1, 0, -1):
        to = both_pushed(train, other, pair, 1)[0]
        way = 1 if ends_unlike(train, other, to, rest, known) else -1
        pushes.append(way)
        pair = both_pushed(train, other, pair, way)[0]
    return "apart", pushes + [1 if shown_unlike(train, other, pair, [1]) else -1]


def judge_by_words(train, stand, other, there, thing):
    if has_form(thing, tuple, lambda word: word == "apart", list_of(is_way)):
        return len(thing[1]) > 0 and shown_unlike(train, other, (stand, there), thing[1])
    is_pair = lambda pair: has_form(pair, tuple, stand_form(train), stand_form(other))
    if not has_form(thing, tuple, lambda word: word == "alike", list_of(is_pair)):
        return False
    pairs = thing[1]
    if pairs != sorted(set(pairs)) or (stand, there) not in pairs:
        return False
    steps = [both_pushed(train, other, pair, way) for pair in pairs for way in WAYS]
    return all(both[0] == both[1] and to in pairs for to, both in steps)


# Trains at stands that show alike though they are not the same.
ALIKE = [
    ([("wheel", 3, (0,))], (0,), [("wheel", 6, (0, 3))], (3,)),
    ([("wheel", 3, (0,))], (1,), [("wheel", 6, (2, 5))], (0,)),
    ([("wheel", 2, (0, 1))], (1,), [("wheel", 1, (0,))], (0,)),
    ([("spring", 1)], (0,), [CLICK], (0,)),
    ([CLICK, CLICK], (0, 0), [CLICK], (0,)),
    ([("wheel", 5, ())], (2,), [("wheel", 3, ()), ROCKER], (1, 1)),
    ([("wheel", 1, (0,)), ("spring", 3)], (0, 2), [("spring", 3)], (2,)),
    ([ROCKER, ROCKER], (0, 1), [("wheel", 7, ())], (3,)),
    ([ROCKER, CLICK], (0, 0), [ROCKER, ("spring", 1), CLICK], (0, 0, 0)),
    ([("wheel", 4, (1, 3)), ("wheel", 2, (0,))], (0, 0), [("wheel", 4, (3,))], (0,)),
    ([("spring", 2), ("spring", 3)], (1, 1), [("spring", 2), CLICK, ("spring", 3)], (1, 0, 1)),
]


def drawn_two(draw):
    """Two trains with stands, the second one sometimes near to the first."""
    train = drawn_train(draw, longest=3, stands=30)
    stand = drawn_stand(draw, train)
    other = drawn_train(draw, longest=3, stands=30)
    kind = draw.randrange(4)
    if kind == 0:
        other = list(train)
    elif kind == 1:
        other = train[:1] + [draw.choice([("wheel", 1, (0,)), CLICK, ("spring", 1)])] + train[1:]
    there = stand if kind == 0 and draw.random() < 0.3 else drawn_stand(draw, other)
    if kind == 1 and draw.random() < 0.7:
        there = stand[:1] + (0,) + stand[1:]
    return train, stand, other, there


class Interface(unittest.TestCase):
    def test_names_and_arguments(self):
        told = {"trains_alike": ["train", "stand", "other", "there"],
                "shows_alike": ["train", "stand", "other", "there", "thing"]}
        for name, arguments in told.items():
            function = getattr(shows, name)
            self.assertEqual(function.__module__, "clicktrain.shows")
            self.assertEqual(list(inspect.signature(function).parameters), arguments)


class TrainsAlike(unittest.TestCase):
    def hold(self, train, stand, other, there):
        told = trains_alike(train, stand, other, there)
        right = alike_by_words(train, stand, other, there)
        self.assertTrue(same_kind(told, right), (train, stand, other, there, told, right))
        about = trains_alike(other, there, train, stand)
        turned = right
        if right[0] == "alike":
            turned = "alike", sorted((second, first) for first, second in right[1])
        self.assertTrue(same_kind(about, turned), (other, there, train, stand, about, turned))
        self.assertIs(shows_alike(train, stand, other, there, told), True)
        self.assertIs(shows_alike(other, there, train, stand, about), True)
        return told

    def test_single_parts_at_all_stands(self):
        for one in PARTS:
            for other in PARTS:
                for stand in stands_by_words([one]):
                    for there in stands_by_words([other]):
                        self.hold([one], stand, [other], there)

    def test_drawn_trains(self):
        draw = random.Random(921)
        told = [self.hold(*drawn_two(draw)) for number in range(500)]
        self.assertGreater(len([answer for answer in told if answer[0] == "alike"]), 50)
        self.assertGreater(len([answer for answer in told if answer[0] == "alike" and len(answer[1]) > 5]), 20)
        self.assertGreater(len([answer for answer in told if answer[0] == "apart" and len(answer[1]) > 2]), 25)
        self.assertGreater(len([answer for answer in told if answer[0] == "apart" and -1 in answer[1]]), 15)

    def test_drawn_stands_of_long_trains(self):
        draw = random.Random(922)
        for train in LONG_TRAINS:
            for number in range(4):
                self.hold(train, drawn_stand(draw, train), train, drawn_stand(draw, train))
                self.hold(train, drawn_stand(draw, train), [("wheel", 4, (0, 2))], (1,))

    def test_the_first_of_the_fewest_by_going_through_all_lists(self):
        draw = random.Random(923)
        found = 0
        for number in range(300):
            train, stand, other, there = drawn_two(draw)
            told = trains_alike(train, stand, other, there)
            most = len(told[1]) if told[0] == "apart" else 7
            if most > 9:
                continue
            lists = [list(ways) for many in range(1, most + 1) for ways in itertools.product(WAYS, repeat=many)]
            unlike = [ways for ways in lists if shown_unlike(train, other, (stand, there), ways)]
            self.assertEqual(unlike[:1], [told[1]] if told[0] == "apart" else [])
            found += told[0] == "apart"
        self.assertGreater(found, 100)

    def test_alike_though_not_the_same(self):
        for train, stand, other, there in ALIKE:
            self.assertEqual(self.hold(train, stand, other, there)[0], "alike", (train, other))

    def test_by_hand(self):
        self.assertEqual(trains_alike([CLICK], (0,), [("spring", 1)], (0,)), ("alike", [((0,), (0,))]))
        self.assertEqual(trains_alike([("wheel", 2, (0,))], (0,), [("wheel", 2, (0,))], (0,)),
                         ("alike", [((0,), (0,)), ((1,), (1,))]))
        self.assertEqual(trains_alike([("wheel", 2, (0,))], (0,), [("wheel", 2, (0,))], (1,)), ("apart", [1]))
        self.assertEqual(trains_alike([("wheel", 1, (0,))], (0,), [CLICK], (0,)), ("apart", [-1]))
        self.assertEqual(trains_alike([("spring", 3)], (0,), [("spring", 3)], (1,)), ("apart", [1, 1]))
        self.assertEqual(trains_alike([("spring", 3)], (0,), [("wheel", 3, (0,))], (0,)), ("apart", [-1]))
        # By -1 a spring stays at 0 where a wheel goes back.
        self.assertEqual(trains_alike([("spring", 2)], (0,), [("wheel", 4, (0, 2)), CLICK], (1, 0)), ("apart", [1]))
        self.assertEqual(trains_alike([("spring", 2)], (0,), [("wheel", 4, (0, 2)), CLICK], (0, 0)),
                         ("apart", [-1, 1]))
        self.assertEqual(trains_alike([ROCKER], (0,), [CLICK], (0,)), ("apart", [1, 1]))
        self.assertEqual(trains_alike([ROCKER], (1,), [("wheel", 2, ())], (0,)), ("apart", [-1, 1]))

    def test_pairs_are_in_order(self):
        told = trains_alike([("wheel", 12, ())], (5,), [("wheel", 8, ())], (3,))
        self.assertEqual(told[0], "alike")
        self.assertEqual(len(told[1]), 24)
        self.assertEqual(told[1], sorted(told[1]))
        self.assertEqual(told[1][:3], [((0,), (2,)), ((0,), (6,)), ((1,), (3,))])

    def test_some_twenty_thousand_pairs(self):
        train, other = [("wheel", 127, ())], [("wheel", 157, ())]
        told = trains_alike(train, (0,), other, (0,))
        self.assertEqual(told, ("alike", sorted(((at % 127,), (at % 157,)) for at in range(127 * 157))))
        self.assertIs(shows_alike(train, (0,), other, (0,), told), True)

    def test_many_pushes(self):
        self.assertEqual(trains_alike([("spring", 2000)], (0,), [("spring", 1999)], (0,)), ("apart", [1] * 1999))
        self.assertEqual(trains_alike([("wheel", 2000, (1000,))], (0,), [("wheel", 1999, (1000,))], (0,)),
                         ("apart", [-1] * 1000))
        self.assertEqual(trains_alike([("wheel", 2000, (999,))], (0,), [("wheel", 1999, (1000,))], (0,)),
                         ("apart", [1] * 999))

    def test_trains_of_very_many_stands_that_soon_show_unlike(self):
        train = [("wheel", HUGE, (1, 5)), ("spring", HUGE)]
        other = [("wheel", HUGE - 1, (1, 4)), CLICK]
        self.assertEqual(trains_alike(train, (0, HUGE - 1), other, (0, 0)), ("apart", [1, -1, 1]))
        self.assertEqual(trains_alike(train, (0, HUGE - 3), other, (0, 0)), ("apart", [1]))
        self.assertIs(shows_alike(train, (0, HUGE - 1), other, (0, 0), ("apart", [1, -1, 1])), True)
        self.assertIs(shows_alike(train, (0, HUGE - 1), other, (0, 0), ("alike", [((0, HUGE - 1), (0, 0))])), False)


class Judge(unittest.TestCase):
    def hold(self, train, stand, other, there, thing):
        told = shows_alike(train, stand, other, there, thing)
        right = judge_by_words(train, stand, other, there, thing)
        self.assertIs(told, right, (train, stand, other, there, thing))
        return right

    def test_told_ones_bent(self):
        draw = random.Random(931)
        let_by = 0
        for number in range(120):
            asked = drawn_two(draw)
            told = trains_alike(*asked)
            for thing in some_bent(told, number, 150):
                let_by += self.hold(*asked, thing)
        for number, asked in enumerate(ALIKE):
            for thing in some_bent(trains_alike(*asked), number, 400):
                self.hold(*asked, thing)
        self.assertGreater(let_by, 10)

    def test_more_pairs_than_pushes_lead_to(self):
        train = [("wheel", 4, (0, 2)), ("spring", 2)]
        other = [("wheel", 2, (0,)), ("spring", 2)]
        few = trains_alike(train, (0, 0), other, (0, 0))[1]
        second = trains_alike(train, (1, 0), other, (1, 0))[1]
        more = sorted(set(few + second + trains_alike(train, (0, 1), other, (0, 1))[1]))
        self.assertEqual(len(more), 8)
        self.assertIs(shows_alike(train, (0, 0), other, (0, 0), ("alike", more)), True)
        clicks = [CLICK, ROCKER]
        once = trains_alike(clicks, (0, 1), clicks, (0, 1))[1]
        self.assertEqual(once, [((0, 1), (0, 1))])
        self.assertIs(shows_alike(clicks, (0, 1), clicks, (0, 1),
                                  ("alike", [((0, 0), (0, 0)), ((0, 1), (0, 1))])), True)
        self.assertIs(shows_alike(clicks, (0, 1), clicks, (0, 1),
                                  ("alike", [((0, 1), (0, 1)), ((0, 0), (0, 0))])), False)
        self.assertIs(shows_alike(clicks, (0, 1), clicks, (0, 1),
                                  ("alike", [((0, 0), (0, 1)), ((0, 1), (0, 1))])), False)

    def test_any_list_that_shows_unlike_at_the_last(self):
        train, other = [("wheel", 3, (0,))], [("wheel", 4, (0,))]
        for many in range(1, 9):
            for ways in itertools.product(WAYS, repeat=many):
                self.hold(train, (0,), other, (0,), ("apart", list(ways)))
        # Unlike at the third one, the same at the fifth.
        self.assertIs(shows_alike(train, (0,), other, (0,), ("apart", [1, 1, 1])), True)
        self.assertIs(shows_alike(train, (0,), other, (0,), ("apart", [1, 1, 1, 1])), True)
        self.assertIs(shows_alike(train, (0,), other, (0,), ("apart", [1, 1, 1, 1, 1])), False)

    def test_a_right_paper_of_another_question(self):
        asked = ([("wheel", 6, (0, 3))], (0,), [("wheel", 3, (0,))], (0,))
        told = trains_alike(*asked)
        self.assertIs(shows_alike(*asked, told), True)
        self.assertIs(shows_alike([("wheel", 6, (0, 3))], (3,), [("wheel", 3, (0,))], (0,), told), True)
        self.assertIs(shows_alike([("wheel", 6, (0, 3))], (1,), [("wheel", 3, (0,))], (0,), told), False)
        self.assertIs(shows_alike([("wheel", 6, (0,))], (0,), [("wheel", 3, (0,))], (0,), told), False)
        self.assertIs(shows_alike(asked[2], asked[3], asked[0], asked[1], told), False)

    def test_a_truth_for_a_number(self):
        asked = ([("wheel", 2, (0,))], (0,), [("wheel", 2, (0,))], (0,))
        for pair in [((False,), (0,)), ((0,), (False,)), ((False,), (False,))]:
            self.assertIs(shows_alike(*asked, ("alike", [pair, ((1,), (1,))])), False)
        for pair in [((True,), (1,)), ((1,), (True,))]:
            self.assertIs(shows_alike(*asked, ("alike", [((0,), (0,)), pair])), False)
        asked = ([("wheel", 2, (0,))], (0,), [("wheel", 2, (1,))], (0,))
        self.assertIs(shows_alike(*asked, ("apart", [1])), True)
        self.assertIs(shows_alike(*asked, ("apart", [True])), False)
        self.assertIs(shows_alike(*asked, ("apart", [True, 1, 1])), False)

    def test_things_that_are_no_paper(self):
        for asked in ALIKE + [([("wheel", 2, (0,))], (0,), [("wheel", 2, (1,))], (0,)), ([CLICK], (0,), [CLICK], (0,))]:
            for thing in NO_PAPERS:
                self.assertIs(shows_alike(*asked, thing), False, thing)

    def test_a_told_one_of_another_form(self):
        asked = ([("wheel", 2, (0,))], (0,), [("wheel", 2, (0,))], (0,))
        pairs = [((0,), (0,)), ((1,), (1,))]
        for thing in [("alike", tuple(pairs)), ["alike", pairs], ("alike", pairs, pairs), ("apart", pairs),
                      ("alike", [list(pair) for pair in pairs]), ("alike", [([0], [0]), ([1], [1])]),
                      ("alike", [pairs]), ("alike", pairs + pairs), ("alike", [pairs[0], pairs[0], pairs[1]]),
                      ("alike", pairs[::-1]), ("alike", pairs[:1]), ("alike", pairs[1:]),
                      ("alike", pairs + [((2,), (2,))]), ("alike", pairs + [((1,), (2,))]),
                      ("alike", [((0, 0), (0,)), ((1, 0), (1,))]), ("alike", [((-1,), (-1,))] + pairs)]:
            self.assertIs(shows_alike(*asked, thing), False, thing)
        self.assertIs(shows_alike(*asked, ("alike", pairs)), True)


class Refusals(unittest.TestCase):
    def test_each_in_its_turn(self):
        train, stand = [("wheel", 3, (0,))], (0,)
        no_stand = [None, (3,), (True,), [0], (0, 0), ()]
        for ask, rest in [(trains_alike, ()), (shows_alike, (None,)), (shows_alike, (("apart", [1]),))]:
            for thing in NO_TRAINS:
                self.assertIs(refusal(ask, thing, None, None, None, *rest), NoTrain, thing)
                self.assertIs(refusal(ask, thing, stand, train, stand, *rest), NoTrain, thing)
                self.assertIs(refusal(ask, train, stand, thing, None, *rest), NoTrain, thing)
                self.assertIs(refusal(ask, train, stand, thing, stand, *rest), NoTrain, thing)
                for wrong in no_stand:
                    self.assertIs(refusal(ask, train, wrong, thing, wrong, *rest), NoStand, (thing, wrong))
            for wrong in no_stand:
                self.assertIs(refusal(ask, train, wrong, train, stand, *rest), NoStand, wrong)
                self.assertIs(refusal(ask, train, stand, train, wrong, *rest), NoStand, wrong)

    def test_what_is_no_stand(self):
        for train in LONG_TRAINS:
            stand = tuple(0 for part in train)
            for wrong in no_stands(train):
                for ask, rest in [(trains_alike, ()), (shows_alike, ((),))]:
                    self.assertIs(refusal(ask, train, wrong, [CLICK], (0,), *rest), NoStand, wrong)
                    self.assertIs(refusal(ask, [CLICK], (0,), train, wrong, *rest), NoStand, wrong)
                    self.assertIsNone(refusal(ask, train, stand, [CLICK], (0,), *rest))


class HandedIn(unittest.TestCase):
    def test_lists_are_the_askers_own(self):
        draw = random.Random(941)
        for asked in ALIKE + [drawn_two(draw) for number in range(60)]:
            told = asked_twice(trains_alike, *asked)
            self.assertIs(asked_twice(shows_alike, *asked, told), True)

    def test_one_train_for_both(self):
        train = [("wheel", 3, (0,)), ROCKER]
        self.assertEqual(trains_alike(train, (0, 0), train, (0, 0))[0], "alike")
        self.assertEqual(train, [("wheel", 3, (0,)), ROCKER])

    def test_what_is_changed_later_is_told_anew(self):
        train, other = [("wheel", 2, (0,))], [("wheel", 2, (0,))]
        told = trains_alike(train, (0,), other, (0,))
        other[0] = ("wheel", 2, (1,))
        self.assertEqual(trains_alike(train, (0,), other, (0,)), ("apart", [1]))
        self.assertIs(shows_alike(train, (0,), other, (0,), told), False)
        self.assertEqual(told, ("alike", [((0,), (0,)), ((1,), (1,))]))


if __name__ == "__main__":
    unittest.main()
