"""Points 2, 4, 5, 13, 14 and 15: clicktrain/ways.py."""

import inspect
import random
import unittest

from clicktrain import ways
from clicktrain.errors import NoRow, NoStand, NoTrain, TooMany
from clicktrain.trains import stands_of
from clicktrain.ways import fewest_deeds, least_pushes, shows_deeds, shows_never, shows_row
from tests.plain import (CLICK, FULL_TRAINS, HUGE, LONG_TRAINS, NO_PAPERS, NO_TRAINS, ROCKER, asked_twice,
                         drawn_stand, drawn_train, has_form, is_number, is_way, list_of, no_keys, no_stands,
                         push_by_words, push_form, refusal, row_by_rounds, row_by_words, same_kind, some_bent,
                         stand_form, stands_by_words)

TELLERS = (least_pushes, fewest_deeds)
JUDGES = (shows_row, shows_never, shows_deeds)


def by_one_push(train, stand, keys):
    """The stands to which one push at a key leads."""
    return {push_by_words(train, stand, i, way)[0] for i in keys for way in (1, -1)}


def by_one_deed(train, stand, keys):
    """The stands to which one push or more, of one way at one key, lead."""
    found = set()
    for i in keys:
        for way in (1, -1):
            here = push_by_words(train, stand, i, way)[0]
            along = set()
            while here not in along:
                along.add(here)
                here = push_by_words(train, here, i, way)[0]
            found |= along
    return found


def numbers_by_words(train, stand, keys, by_one):
    """Of each stand that comes, how few it takes: all that so many lead to, then one more."""
    numbers = {}
    last, many = {stand}, 0
    while last:
        for here in last:
            numbers[here] = many
        many += 1
        last = {after for here in last for after in by_one(train, here, keys)} - set(numbers)
    return numbers


def row_paper_by_words(train, stand, goal, keys, thing, row_form, by_one, leads):
    is_numbered = lambda item: has_form(item, tuple, stand_form(train), lambda many: is_number(many) and many >= 0)
    if not has_form(thing, tuple, lambda word: word == "row", list_of(row_form), list_of(is_numbered)):
        return False
    row, numbers = thing[1], dict(thing[2])
    if len(numbers) != len(thing[2]) or numbers.get(stand, 1) != 0 or numbers.get(goal, -1) != len(row):
        return False
    if leads(train, stand, row) != goal:
        return False
    return all(numbers.get(after, HUGE) <= numbers[here] + 1
               for here in numbers for after in by_one(train, here, keys))


def shows_row_by_words(train, stand, goal, keys, thing):
    leads = lambda train, stand, row: row_by_words(train, stand, [(i, way, 1) for i, way in row])[0]
    return row_paper_by_words(train, stand, goal, keys, thing, push_form(keys), by_one_push, leads)


def shows_deeds_by_words(train, stand, goal, keys, thing):
    is_deed = lambda deed: has_form(deed, tuple, lambda i: is_number(i) and i in keys, is_way,
                                    lambda times: is_number(times) and times >= 1)
    leads = lambda train, stand, row: row_by_rounds(train, stand, row)[0]
    return row_paper_by_words(train, stand, goal, keys, thing, is_deed, by_one_deed, leads)


def shows_never_by_words(train, stand, goal, keys, thing):
    if not has_form(thing, tuple, lambda word: word == "never", list_of(stand_form(train))):
        return False
    among = set(thing[1])
    if len(among) != len(thing[1]) or stand not in among or goal in among:
        return False
    return all(by_one_push(train, here, keys) <= among for here in among)


BY_WORDS = {shows_row: shows_row_by_words, shows_never: shows_never_by_words, shows_deeds: shows_deeds_by_words}


def drawn_asked(draw, stands=60):
    train = drawn_train(draw, stands=stands)
    keys = [i for i in range(len(train)) if draw.random() < 0.7]
    draw.shuffle(keys)
    return train, drawn_stand(draw, train), drawn_stand(draw, train), keys


class Interface(unittest.TestCase):
    def test_names_and_arguments(self):
        asked = ["train", "stand", "goal", "keys"]
        told = {"least_pushes": asked, "fewest_deeds": asked, "shows_row": asked + ["thing"],
                "shows_never": asked + ["thing"], "shows_deeds": asked + ["thing"]}
        for name, arguments in told.items():
            function = getattr(ways, name)
            self.assertEqual(function.__module__, "clicktrain.ways")
            self.assertEqual(list(inspect.signature(function).parameters), arguments)


class Told(unittest.TestCase):
    def hold_never(self, asked, told, numbers):
        self.assertTrue(same_kind(told, ("never", sorted(numbers))), (asked, told))
        self.assertIs(shows_never(*asked, told), True, asked)
        self.assertIs(shows_row(*asked, told), False)
        self.assertIs(shows_deeds(*asked, told), False)

    def hold_pushes(self, train, stand, goal, keys):
        asked = (train, stand, goal, keys)
        told = least_pushes(*asked)
        numbers = numbers_by_words(train, stand, keys, by_one_push)
        if goal not in numbers:
            self.hold_never(asked, told, numbers)
            return told
        self.assertTrue(has_form(told, tuple, lambda word: word == "row", list_of(push_form(keys)),
                                 lambda thing: same_kind(thing, sorted(numbers.items()))), (asked, told))
        self.assertEqual(len(told[1]), numbers[goal], asked)
        self.assertEqual(row_by_words(train, stand, [(i, way, 1) for i, way in told[1]])[0], goal, asked)
        self.assertIs(shows_row(*asked, told), True, asked)
        self.assertIs(shows_never(*asked, told), False, asked)
        return told

    def hold_deeds(self, train, stand, goal, keys):
        asked = (train, stand, goal, keys)
        told = fewest_deeds(*asked)
        numbers = numbers_by_words(train, stand, keys, by_one_deed)
        if goal not in numbers:
            self.hold_never(asked, told, numbers)
            return told
        is_deed = lambda deed: has_form(deed, tuple, lambda i: is_number(i) and i in keys, is_way, is_number)
        self.assertTrue(has_form(told, tuple, lambda word: word == "row", list_of(is_deed),
                                 lambda thing: same_kind(thing, sorted(numbers.items()))), (asked, told))
        self.assertEqual(len(told[1]), numbers[goal], asked)
        here = stand
        for i, way, times in told[1]:
            self.assertGreaterEqual(times, 1)
            along = [row_by_words(train, here, [(i, way, many)])[0] for many in range(1, times + 1)]
            self.assertNotIn(along[-1], along[:-1], (asked, told))
            here = along[-1]
        self.assertEqual(here, goal, asked)
        self.assertIs(shows_deeds(*asked, told), True, asked)
        self.assertIs(shows_never(*asked, told), False, asked)
        return told

    def test_drawn_trains(self):
        draw = random.Random(951)
        words, lengths, times = [], [], []
        for number in range(400):
            asked = drawn_asked(draw)
            pushes, deeds = self.hold_pushes(*asked), self.hold_deeds(*asked)
            words.append(pushes[0])
            if pushes[0] == "row":
                lengths.append(len(pushes[1]) - len(deeds[1]))
                times += [deed[2] for deed in deeds[1]]
        self.assertGreater(words.count("row"), 100)
        self.assertGreater(words.count("never"), 30)
        self.assertGreater(max(lengths), 3)
        self.assertGreater(max(times), 3)

    def test_every_goal_of_some_trains(self):
        sprung = [("wheel", 3, (0, 1)), ("spring", 4)]
        for train, keys in [(sprung, [0]), (sprung, [1, 0]), ([ROCKER, ("wheel", 4, (1,)), ROCKER], [0, 2]),
                            ([("spring", 3), ROCKER, CLICK], [0]), ([("spring", 2), ("spring", 3)], [0]),
                            ([CLICK, ("wheel", 5, (0, 2))], [0])]:
            for stand in stands_by_words(train):
                for goal in stands_by_words(train):
                    self.hold_pushes(train, stand, goal, keys)
                    self.hold_deeds(train, stand, goal, keys)

    def test_the_goal_is_the_stand(self):
        for train in LONG_TRAINS[:4]:
            stand = tuple(0 for part in train)
            for keys in ([], [0], list(range(len(train)))):
                self.assertEqual(self.hold_pushes(train, stand, stand, keys)[:2], ("row", []))
                self.assertEqual(self.hold_deeds(train, stand, stand, keys)[:2], ("row", []))

    def test_no_keys(self):
        train = [("wheel", 3, (0,)), ROCKER]
        for ask in TELLERS:
            self.assertEqual(ask(train, (0, 1), (0, 1), []), ("row", [], [((0, 1), 0)]))
            self.assertEqual(ask(train, (0, 1), (1, 1), []), ("never", [(0, 1)]))

    def test_by_hand(self):
        train = [("wheel", 6, (0, 3)), ROCKER]
        self.assertEqual(least_pushes([("wheel", 6, ())], (1,), (3,), [0]),
                         ("row", [(0, 1), (0, 1)], [((0,), 1), ((1,), 0), ((2,), 1), ((3,), 2), ((4,), 3), ((5,), 2)]))
        self.assertEqual(fewest_deeds([("wheel", 6, ())], (1,), (3,), [0])[2],
                         [((0,), 1), ((1,), 0), ((2,), 1), ((3,), 1), ((4,), 1), ((5,), 1)])
        self.assertEqual(least_pushes([("spring", 3)], (2,), (0,), [0])[1], [(0, 1)])
        self.assertEqual(least_pushes([("spring", 9)], (0,), (6,), [0])[1], [(0, 1)] * 6)
        self.assertEqual(fewest_deeds([("spring", 9)], (0,), (6,), [0])[1], [(0, 1, 6)])
        # The rocker goes back only where the mark is left by -1 and not come to again by 1.
        self.assertEqual(least_pushes(train, (4, 1), (4, 0), [0])[1], [(0, 1), (0, 1), (0, -1), (0, -1)])
        self.assertEqual(fewest_deeds(train, (4, 1), (4, 0), [1])[1], [(1, -1, 1)])
        self.assertEqual(least_pushes([CLICK, ROCKER], (0, 1), (0, 0), [0]), ("never", [(0, 1)]))
        self.assertEqual(least_pushes([("wheel", 2, ()), ROCKER], (0, 0), (1, 1), [0]), ("never", [(0, 0), (1, 0)]))

    def test_long_trains(self):
        draw = random.Random(952)
        for train in LONG_TRAINS:
            for number in range(3):
                keys = draw.sample(range(len(train)), draw.randint(1, len(train)))
                asked = (train, drawn_stand(draw, train), drawn_stand(draw, train), keys)
                self.hold_pushes(*asked)
                self.hold_deeds(*asked)

    def test_five_hundred_stands(self):
        for train, goal in [([("wheel", 500, (0,))], (250,)), ([("spring", 500)], (499,)),
                            ([("wheel", 25, (0, 3)), ("spring", 10), ROCKER], (12, 9, 1)),
                            ([("wheel", 1, (0,))] * 7 + [("wheel", 500, (0, 7))], (0,) * 7 + (333,))]:
            stand = tuple(0 for part in train)
            keys = list(range(len(train)))
            self.assertEqual(len(self.hold_pushes(train, stand, goal, keys)[2]), 500)
            told = fewest_deeds(train, stand, goal, keys)
            self.assertEqual(len(told[2]), 500)
            self.assertIs(shows_deeds(train, stand, goal, keys, told), True)
            self.assertEqual(row_by_words(train, stand, told[1])[0], goal)
        numbers = numbers_by_words([("spring", 500)], (0,), [0], by_one_deed)
        self.assertEqual(fewest_deeds([("spring", 500)], (0,), (499,), [0])[2], sorted(numbers.items()))


class Judges(unittest.TestCase):
    def hold(self, judge, asked, thing):
        told = judge(*asked, thing)
        right = BY_WORDS[judge](*asked, thing)
        self.assertIs(told, right, (judge, asked, thing))
        return right

    def test_told_ones_bent(self):
        draw = random.Random(961)
        let_by = {judge: 0 for judge in JUDGES}
        for number in range(120):
            asked = drawn_asked(draw, stands=24)
            for ask in TELLERS:
                told = ask(*asked)
                for thing in some_bent(told, number, 150):
                    for judge in JUDGES:
                        let_by[judge] += self.hold(judge, asked, thing)
        for judge in JUDGES:
            self.assertGreater(let_by[judge], 20)

    def test_numbers_drawn_near_to_the_right_ones(self):
        draw = random.Random(962)
        let_by = {shows_row: 0, shows_deeds: 0}
        for number in range(1500):
            asked = drawn_asked(draw, stands=20)
            for judge, ask in [(shows_row, least_pushes), (shows_deeds, fewest_deeds)]:
                told = ask(*asked)
                if told[0] == "never":
                    continue
                numbers = [(here, max(0, many - draw.choice((0, 0, 0, 0, 1, -1)))) for here, many in told[2]]
                draw.shuffle(numbers)
                let_by[judge] += self.hold(judge, asked, ("row", told[1], numbers))
        for judge in let_by:
            self.assertGreater(let_by[judge], 100)

    def test_numbers_in_any_order_and_of_more_stands(self):
        # What never comes may have a number too, where what it leads to has one.
        train, keys = [("wheel", 2, ()), ROCKER], [0]
        right = [((0, 0), 0), ((1, 0), 1)]
        more = right + [((0, 1), 7), ((1, 1), 8)]
        for numbers, holds in [(right, True), (right[::-1], True), (more, True), (more[::-1], True), (more[:3], False),
                               (right + [((0, 1), 7), ((1, 1), 9)], False), (right + [((0, 1), 0), ((1, 1), 0)], True),
                               (right + [((0, 1), -1), ((1, 1), 0)], False), (right + [((0, 1), -1), ((1, 1), -1)], False),
                               (right + right, False), (right[:1], False), (right[1:], False),
                               ([((0, 0), 0), ((1, 0), 0)], False), ([((0, 0), 1), ((1, 0), 1)], False)]:
            self.assertIs(shows_row(train, (0, 0), (1, 0), keys, ("row", [(0, 1)], numbers)), holds, numbers)
            self.assertIs(shows_row(train, (0, 0), (1, 0), keys, ("row", [(0, -1)], numbers)), holds, numbers)
            self.assertIs(shows_deeds(train, (0, 0), (1, 0), keys, ("row", [(0, 1, 1)], numbers)), holds, numbers)

    def test_pushes_that_are_more_than_needed(self):
        train, numbers = [("wheel", 8, ())], [((at,), min(at, 8 - at)) for at in range(8)]
        ask = lambda pushes, numbers: shows_row(train, (0,), (3,), [0], ("row", pushes, numbers))
        self.assertIs(ask([(0, 1)] * 3, numbers), True)
        self.assertIs(ask([(0, -1)] * 5, numbers), False)
        self.assertIs(ask([(0, -1)] * 5, [((at,), (8 - at) % 8) for at in range(8)]), False)
        self.assertIs(ask([(0, 1)] * 2, numbers), False)
        self.assertIs(ask([(0, 1), (0, -1)] + [(0, 1)] * 3, numbers), False)
        self.assertIs(ask([(0, 1), (0, 1), (0, -1)], numbers), False)
        self.assertIs(ask([(0, 1, 1)] * 3, numbers), False)
        self.assertIs(ask([], numbers), False)

    def test_deeds_of_any_times(self):
        train, numbers = [("wheel", 8, ())], [((at,), 1 if at else 0) for at in range(8)]
        for times, holds in [(1, False), (3, True), (11, True), (8 * 10 ** 38 + 3, True), (8 * 10 ** 38 + 4, False),
                             (0, False), (-5, False), (True, False)]:
            self.assertIs(shows_deeds(train, (0,), (3,), [0], ("row", [(0, 1, times)], numbers)), holds, times)
        self.assertIs(shows_deeds(train, (0,), (1,), [0], ("row", [(0, 1, 1)], numbers)), True)
        self.assertIs(shows_deeds(train, (0,), (1,), [0], ("row", [(0, 1, True)], numbers)), False)
        self.assertIs(shows_deeds(train, (0,), (3,), [0], ("row", [(0, 1, 1), (0, 1, 2)], numbers)), False)
        self.assertIs(shows_deeds(train, (0,), (3,), [0], ("row", [(0, 1), (0, 1), (0, 1)], numbers)), False)
        self.assertIs(shows_deeds(train, (0,), (0,), [0], ("row", [(0, 1, 0)], numbers)), False)
        self.assertIs(shows_deeds(train, (0,), (0,), [0], ("row", [], numbers)), True)

    def test_numbers_by_pushes_are_not_numbers_by_deeds(self):
        train = [("wheel", 6, ())]
        told = least_pushes(train, (0,), (2,), [0])
        self.assertIs(shows_deeds(train, (0,), (2,), [0], ("row", [(0, 1, 1), (0, 1, 1)], told[2])), False)
        self.assertIs(shows_row(train, (0,), (2,), [0], told), True)
        # One push leads to at most one more, the third push of the same deed does not.
        spring = [("spring", 6)]
        pushes = [((at,), at) for at in range(6)]
        self.assertIs(shows_row(spring, (0,), (2,), [0], ("row", [(0, 1)] * 2, pushes)), True)
        self.assertIs(shows_deeds(spring, (0,), (2,), [0], ("row", [(0, 1, 1)] * 2, pushes)), False)
        for far in range(1, 6):
            numbers = [((at,), (at >= 1) + (at >= far)) for at in range(6)]
            self.hold(shows_deeds, (spring, (0,), (1,), [0]), ("row", [(0, 1, 1)], numbers))

    def test_pushes_and_deeds_at_keys_alone(self):
        train = [("wheel", 4, (0,)), ROCKER]
        numbers = [((at, rocks), at) for at in range(4) for rocks in (0, 1)]
        self.assertIs(shows_row(train, (3, 0), (3, 1), [0], ("row", [(1, 1)], [((3, 0), 0), ((3, 1), 1)])), False)
        self.assertIs(shows_row(train, (3, 0), (3, 1), [1], ("row", [(1, 1)], [((3, 0), 0), ((3, 1), 1)])), True)
        self.assertIs(shows_row(train, (3, 0), (3, 1), [1, 0], ("row", [(1, 1)], [((3, 0), 0), ((3, 1), 1)])), False)
        self.assertIs(shows_deeds(train, (3, 0), (3, 1), [1], ("row", [(1, 1, 9)], [((3, 0), 0), ((3, 1), 1)])), True)
        self.assertIs(shows_deeds(train, (3, 0), (3, 1), [0], ("row", [(1, 1, 9)], [((3, 0), 0), ((3, 1), 1)])), False)
        self.assertIs(shows_row(train, (0, 0), (1, 0), [0], ("row", [(0, 1)], numbers)), False)

    def test_never(self):
        train, keys = [("wheel", 2, ()), ROCKER], [0]
        right = [(0, 0), (1, 0)]
        for goal, stands, holds in [((1, 1), right, True), ((1, 1), right[::-1], True), ((1, 1), right[:1], False),
                                    ((1, 1), right[1:], False), ((1, 0), right, False), ((1, 1), right + right, False),
                                    ((1, 1), right + [(0, 1)], False), ((1, 1), right + [(0, 1), (1, 1)], False),
                                    ((1, 1), [], False), ((1, 1), [(0, 1), (1, 1)], False),
                                    ((1, 0), right[:1], False), ((1, 1), tuple(right), False)]:
            self.assertIs(shows_never(train, (0, 0), goal, keys, ("never", stands)), holds, (goal, stands))
        # More than what comes, but closed.
        train = [("wheel", 2, ()), ("wheel", 3, ())]
        some = [(at, place) for at in (0, 1) for place in (0, 1)]
        self.assertIs(shows_never(train, (0, 0), (0, 2), keys, ("never", some)), True)
        self.assertIs(shows_never(train, (0, 0), (0, 2), keys, ("never", some[::-1])), True)
        self.assertIs(shows_never(train, (0, 0), (0, 2), keys, ("never", some[:-1])), False)
        self.assertIs(shows_never(train, (0, 0), (0, 2), [0, 1], ("never", some)), False)

    def test_a_truth_for_a_number(self):
        train = [("wheel", 2, ()), ("wheel", 2, ())]
        asked = (train, (0, 0), (0, 1), [1])
        numbers = [((0, 0), 0), ((0, 1), 1)]
        self.assertIs(shows_row(*asked, ("row", [(1, 1)], numbers)), True)
        self.assertIs(shows_deeds(*asked, ("row", [(1, 1, 1)], numbers)), True)
        for push in [(True, 1), (1, True)]:
            self.assertIs(shows_row(*asked, ("row", [push], numbers)), False)
        for deed in [(True, 1, 1), (1, True, 1), (1, 1, True)]:
            self.assertIs(shows_deeds(*asked, ("row", [deed], numbers)), False)
        for wrong in [[((0, 0), False), numbers[1]], [numbers[0], ((0, 1), True)], [((False, 0), 0), numbers[1]],
                      [((0, False), 0), numbers[1]], [numbers[0], ((0, True), 1)], [numbers[0], ((False, 1), 1)]]:
            self.assertIs(shows_row(*asked, ("row", [(1, 1)], wrong)), False)
            self.assertIs(shows_deeds(*asked, ("row", [(1, 1, 1)], wrong)), False)
        never = (train, (0, 0), (1, 1), [1])
        self.assertIs(shows_never(*never, ("never", [(0, 0), (0, 1)])), True)
        for wrong in [[(False, 0), (0, 1)], [(0, False), (0, 1)], [(0, 0), (0, True)], [(0, 0), (False, 1)]]:
            self.assertIs(shows_never(*never, ("never", wrong)), False)

    def test_things_that_are_no_paper(self):
        draw = random.Random(963)
        small = [([CLICK], (0,), (0,), []), ([CLICK], (0,), (0,), [0])]
        for asked in [drawn_asked(draw) for number in range(20)] + small:
            for thing in NO_PAPERS:
                for judge in JUDGES:
                    self.assertIs(judge(*asked, thing), False, (asked, thing))

    def test_each_judge_has_its_own_paper(self):
        asked = ([("wheel", 5, ()), ROCKER], (0, 0), (2, 0), [0])
        pushes, deeds = least_pushes(*asked), fewest_deeds(*asked)
        self.assertEqual([judge(*asked, pushes) for judge in JUDGES], [True, False, False])
        self.assertEqual([judge(*asked, deeds) for judge in JUDGES], [False, False, True])
        far = ([("wheel", 5, ()), ROCKER], (0, 0), (2, 1), [0])
        self.assertEqual([judge(*far, least_pushes(*far)) for judge in JUDGES], [False, True, False])
        self.assertEqual([judge(*far, fewest_deeds(*far)) for judge in JUDGES], [False, True, False])
        self.assertEqual([judge(*far, pushes) for judge in JUDGES], [False, False, False])

    def test_more_stands_than_are_told_of(self):
        for train in FULL_TRAINS + [[("wheel", 501, ())]]:
            stand = tuple(0 for part in train)
            stands = stands_of(train)
            keys = list(range(len(train)))
            numbers = numbers_by_words(train, stand, keys, by_one_push)
            for goal in stands[:2]:
                row = [(len(train) - 1, 1)] * numbers[goal]
                self.assertIs(shows_row(train, stand, goal, keys, ("row", row, sorted(numbers.items()))),
                              push_by_words(train, stand, len(train) - 1, 1)[0] == goal or goal == stand)
            goal = stands[-1]
            self.assertIs(shows_never(train, stand, goal, [], ("never", [stand])), True)
            self.assertIs(shows_never(train, stand, goal, keys, ("never", stands[:-1])), False)
        wheel = [("wheel", 1, (0,))] * 7 + [("wheel", 2000, (0, 5))]
        stand, goal = (0,) * 8, (0,) * 7 + (1234,)
        numbers = [(here, 0 if here == stand else 1) for here in stands_of(wheel)]
        keys = list(range(8))
        self.assertIs(shows_deeds(wheel, stand, goal, keys, ("row", [(3, -1, 766)], numbers)), True)
        self.assertIs(shows_deeds(wheel, stand, goal, keys, ("row", [(3, -1, 767)], numbers)), False)
        self.assertIs(shows_deeds(wheel, stand, goal, keys, ("row", [(3, -1, 766)], numbers[:-1])), False)

    def test_trains_of_very_many_stands(self):
        # A judge looks at the paper's stands alone, however many the train has.
        train = [("wheel", HUGE, ()), ROCKER]
        self.assertIs(shows_never(train, (5, 0), (6, 0), [1], ("never", [(5, 0), (5, 1)])), True)
        self.assertIs(shows_row(train, (5, 0), (5, 1), [1], ("row", [(1, 1)], [((5, 1), 1), ((5, 0), 0)])), True)
        self.assertIs(shows_deeds(train, (5, 0), (5, 1), [1], ("row", [(1, 1, HUGE)], [((5, 1), 1), ((5, 0), 0)])),
                      True)
        self.assertIs(shows_never(train, (5, 0), (6, 0), [0], ("never", [(5, 0), (4, 0)])), False)
        self.assertIs(shows_deeds(train, (5, 0), (6, 0), [0], ("row", [(0, 1, 1)], [((5, 0), 0), ((6, 0), 1)])), False)


class Refusals(unittest.TestCase):
    def all_asked(self):
        for ask in TELLERS:
            yield ask, ()
        for judge in JUDGES:
            for thing in (None, ("never", [(0,)]), ("row", [], [((0,), 0)])):
                yield judge, (thing,)

    def test_each_in_its_turn(self):
        train, good = [("wheel", 501, (0,))], (0,)
        no_stand = [None, (501,), (True,), [0], (0, 0), (), (-1,), ("0",)]
        for ask, rest in self.all_asked():
            for thing in NO_TRAINS:
                for stand, goal, keys in [(None, None, None), (good, good, [0]), ((9, 9), good, [])]:
                    self.assertIs(refusal(ask, thing, stand, goal, keys, *rest), NoTrain, (ask, thing))
            for wrong in no_stand:
                for goal, keys in [(good, [0]), (None, None), (good, [1]), (wrong, [0])]:
                    self.assertIs(refusal(ask, train, wrong, goal, keys, *rest), NoStand, (ask, wrong))
                for keys in ([0], [], None, [1], [0, 0]):
                    self.assertIs(refusal(ask, train, good, wrong, keys, *rest), NoStand, (ask, wrong))
            for keys in no_keys(1):
                self.assertIs(refusal(ask, train, good, good, keys, *rest), NoRow, (ask, keys))

    def test_what_is_no_stand_or_no_goal(self):
        for train in LONG_TRAINS[:4]:
            stand = tuple(0 for part in train)
            for wrong in no_stands(train):
                for ask, rest in self.all_asked():
                    self.assertIs(refusal(ask, train, wrong, stand, [], *rest), NoStand, wrong)
                    self.assertIs(refusal(ask, train, stand, wrong, [], *rest), NoStand, wrong)

    def test_what_are_no_keys(self):
        for train in LONG_TRAINS:
            stand = tuple(0 for part in train)
            for keys in no_keys(len(train)):
                for ask, rest in self.all_asked():
                    self.assertIs(refusal(ask, train, stand, stand, keys, *rest), NoRow, keys)
            for keys in ([], [0], [len(train) - 1], list(range(len(train))), list(range(len(train)))[::-1]):
                for ask, rest in self.all_asked():
                    self.assertIsNone(refusal(ask, train, stand, stand, keys, *rest), keys)

    def test_too_many(self):
        for train in [[("wheel", 501, ())], [("spring", 501)], [("wheel", 3, ()), ("spring", 167)],
                      [ROCKER, ("wheel", 251, (0,))], [("wheel", HUGE, (0,))], [("spring", HUGE)] * 8, *FULL_TRAINS]:
            stand = tuple(0 for part in train)
            for keys in ([], [0]):
                for ask in TELLERS:
                    self.assertIs(refusal(ask, train, stand, stand, keys), TooMany, train)
                for judge in JUDGES:
                    self.assertIsNone(refusal(judge, train, stand, stand, keys, None), train)
            for ask in TELLERS:
                self.assertIs(refusal(ask, train, stand, stand, None), NoRow, train)
                self.assertIs(refusal(ask, train, stand, None, []), NoStand, train)
        for train in [[("wheel", 500, ())], [("spring", 500)], [ROCKER, ("wheel", 250, (0,))], [CLICK] * 8,
                      [("wheel", 5, ()), ("spring", 100)]]:
            stand = tuple(0 for part in train)
            for ask in TELLERS:
                self.assertIsNone(refusal(ask, train, stand, stand, [0]), train)


class HandedIn(unittest.TestCase):
    def test_lists_are_the_askers_own(self):
        draw = random.Random(971)
        for number in range(80):
            asked = drawn_asked(draw)
            for ask in TELLERS:
                told = asked_twice(ask, *asked)
                for judge in JUDGES:
                    asked_twice(judge, *asked, told)

    def test_what_is_changed_later_is_told_anew(self):
        train, keys = [("wheel", 5, ()), ("wheel", 5, ())], [0]
        self.assertEqual(least_pushes(train, (0, 0), (0, 1), keys)[0], "never")
        keys.append(1)
        told = least_pushes(train, (0, 0), (0, 1), keys)
        self.assertEqual(told[1], [(1, 1)])
        train[1] = ("wheel", 2, ())
        self.assertEqual(len(fewest_deeds(train, (0, 0), (0, 1), keys)[2]), 10)
        self.assertEqual(len(told[2]), 25)


if __name__ == "__main__":
    unittest.main()
