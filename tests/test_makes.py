"""Points 2, 4, 5 and 19 to 24: clicktrain/makes.py."""

import inspect
import itertools
import random
import unittest

from clicktrain import makes
from clicktrain.errors import NoCount, NoRow, NoStand, NoTrain
from clicktrain.makes import is_smallest, is_smallest_behind, smallest, smallest_behind, teeth_of
from tests.plain import (CLICK, HUGE, LONG_TRAINS, NO_NUMBERS, NO_PAPERS, NO_TRAINS, ROCKER, asked_twice, drawn_stand,
                         drawn_train, has_form, is_number, list_of, no_stands, push_by_words, refusal, same_kind,
                         some_bent)

KINDS = [(way, shown) for way in (1, -1) for shown in (1, -1, 0)]
RIGHT_KINDS = [(1, 1), (1, 0), (-1, -1), (-1, 0)]

# A wheel of one tooth gives on each push as it comes, so behind it a wheel is as one alone.
THROUGH = [("wheel", 1, (0,))]


def shown_behind(train, stand, teeth, marks, ways):
    """What a wheel behind a train shows, gone through push by push; the train may have no parts."""
    whole, shown = list(train) + [("wheel", teeth, marks)], []
    stand = tuple(stand) + (0,)
    for way in ways:
        stand, gives = push_by_words(whole, stand, 0, way)
        shown.append(gives)
    return shown


def does_by_words(train, stand, teeth, marks, shows):
    return shown_behind(train, stand, teeth, marks, [way for way, shown in shows]) == [shown for way, shown in shows]


def all_marks(teeth):
    return [marks for many in range(teeth + 1) for marks in itertools.combinations(range(teeth), many)]


def marks_that_do(train, stand, teeth, shows):
    """All marks with which a wheel of so many teeth does the shows."""
    return [marks for marks in all_marks(teeth) if does_by_words(train, stand, teeth, marks, shows)]


def comes_by_words(train, stand, shows):
    """What comes to the wheel at each push."""
    comes = []
    for way, shown in shows:
        gives = way
        if train:
            stand, gives = push_by_words(train, stand, 0, way)
        comes.append(gives)
    return comes


def passed_by_words(train, stand, teeth, shows):
    """The place of so many teeth that each push passes, None where nothing comes; 0 teeth: a wheel without end."""
    place, passed = 0, []
    for gives in comes_by_words(train, stand, shows):
        after = place + gives
        if teeth:
            after %= teeth
        passed.append({1: after, -1: place, 0: None}[gives])
        place = after
    return passed


def is_bar_by_words(train, stand, teeth, shows, bar):
    """Of two numbers: two pushes that pass the same place, one showing 0 and the other one not."""
    j, k = bar
    if not 0 <= j < k < len(shows):
        return False
    passed = passed_by_words(train, stand, teeth, shows)
    if passed[j] is None or passed[j] != passed[k]:
        return False
    return [shows[j][1], shows[k][1]].count(0) == 1


def wrong_places(train, stand, shows):
    """The places of pushes at which something else is shown than what comes, or 0."""
    comes = comes_by_words(train, stand, shows)
    return [at for at, (way, shown) in enumerate(shows) if shown != 0 and shown != comes[at]]


def two_numbers(thing):
    return has_form(thing, tuple, is_number, is_number)


def judge_by_words(train, stand, shows, thing):
    is_word = lambda word: lambda inner: type(inner) is str and inner == word
    if has_form(thing, tuple, is_word("none"), is_number, is_number):
        word, j, k = thing
        if j == k:
            return j in wrong_places(train, stand, shows)
        return is_bar_by_words(train, stand, 0, shows, (j, k))
    any_marks = lambda marks: type(marks) is tuple and all(is_number(mark) for mark in marks)
    if not has_form(thing, tuple, is_word("wheel"), is_number, any_marks, list_of(two_numbers)):
        return False
    word, teeth, marks, bars = thing
    if len(bars) + 1 != teeth or list(marks) != sorted(set(marks)) or not all(0 <= mark < teeth for mark in marks):
        return False
    return (does_by_words(train, stand, teeth, marks, shows)
            and all(is_bar_by_words(train, stand, at + 1, shows, bar) for at, bar in enumerate(bars)))


def drawn_shows(draw, many, train=(), stand=(), most=7):
    """What a drawn wheel behind the train shows, or near to it, or anything."""
    teeth = draw.randint(1, most)
    marks = tuple(mark for mark in range(teeth) if draw.random() < 0.4)
    lean = draw.choice((0.5, 0.5, 0.8, 1))
    ways = [1 if draw.random() < lean else -1 for push in range(many)]
    shows = list(zip(ways, shown_behind(train, stand, teeth, marks, ways)))
    kind = draw.randrange(5)
    if shows and kind == 0:
        at = draw.randrange(many)
        shows[at] = (shows[at][0], draw.choice((1, -1, 0)))
    elif kind == 1:
        # Nothing but what comes or 0, so only two pushes can speak against a wheel.
        shows = [(way, draw.choice((0, came))) for way, came in zip(ways, comes_by_words(train, stand, shows))]
    return shows


def drawn_behind(draw, most=12, parts=3):
    train = drawn_train(draw, longest=parts, stands=60)
    if draw.random() < 0.4:
        train = draw.choice([THROUGH, [("wheel", 3, (0, 1))], [("wheel", 2, (0, 1)), ("wheel", 4, (0, 1, 3))]])
    stand = drawn_stand(draw, train)
    return train, stand, drawn_shows(draw, draw.randint(0, most), train, stand)


def no_shows():
    found = [None, True, False, 0, 1, "", "+=1", (), ((1, 1),), [None], [0], [1], ["+=1"], [()], [[]], [[1, 1]],
             [(1,)], [(1, 1, 1)], [((1, 1),)], [[(1, 1)]], [(0, 0)], [(2, 0)], [(-2, 0)], [(1, 2)], [(1, -2)],
             [(HUGE, 0)], [(1, HUGE)], [(1, 0)] * 299 + [(1, None)], [(1, 0)] * 400 + [[1, 0]], [(0, 1, 1)],
             [(1, 1), (1, True)], [(True, 1), (1, 1)], [(1, False)]]
    for wrong in NO_NUMBERS:
        found += [[(wrong, 0)], [(1, wrong)], [(1, 0), (wrong, 0)], [(-1, wrong), (1, 0)]]
    return found


class Interface(unittest.TestCase):
    def test_names_and_arguments(self):
        told = {"smallest": ["shows"], "is_smallest": ["shows", "thing"], "teeth_of": ["shows", "most"],
                "smallest_behind": ["train", "stand", "shows"],
                "is_smallest_behind": ["train", "stand", "shows", "thing"]}
        for name, arguments in told.items():
            function = getattr(makes, name)
            self.assertEqual(function.__module__, "clicktrain.makes")
            self.assertEqual(list(inspect.signature(function).parameters), arguments)


class Smallest(unittest.TestCase):
    def hold(self, told, train, stand, shows):
        """The told answer against all wheels of few teeth."""
        asked = (train, stand, shows)
        fits = [marks_that_do(train, stand, teeth, shows) for teeth in range(1, max(1, len(shows)) + 1)]
        if not any(fits):
            self.assertTrue(has_form(told, tuple, lambda word: word == "none", is_number, is_number), (asked, told))
            wrong = wrong_places(train, stand, shows)
            if wrong:
                self.assertEqual(told, ("none", wrong[0], wrong[0]), asked)
            else:
                self.assertTrue(is_bar_by_words(train, stand, 0, shows, told[1:]), (asked, told))
            return told
        teeth = 1 + [bool(fit) for fit in fits].index(True)
        passed = passed_by_words(train, stand, teeth, shows)
        marks = tuple(sorted({place for place, (way, shown) in zip(passed, shows) if shown != 0}))
        self.assertIn(marks, fits[teeth - 1])
        self.assertTrue(has_form(told, tuple, lambda word: word == "wheel", lambda z: same_kind(z, teeth),
                                 lambda told_marks: same_kind(told_marks, marks), list_of(two_numbers)), (asked, told))
        self.assertEqual(len(told[3]), teeth - 1)
        for fewer, bar in enumerate(told[3], start=1):
            self.assertTrue(is_bar_by_words(train, stand, fewer, shows, bar), (asked, told))
        return told

    def hold_alone(self, shows):
        told = self.hold(smallest(shows), [], (), shows)
        self.assertIs(is_smallest(shows, told), True, (shows, told))
        return told

    def hold_behind(self, train, stand, shows):
        told = self.hold(smallest_behind(train, stand, shows), train, stand, shows)
        self.assertIs(is_smallest_behind(train, stand, shows, told), True, (train, stand, shows, told))
        return told

    def test_all_of_few_pushes(self):
        for many in range(4):
            for shows in itertools.product(KINDS, repeat=many):
                self.hold_alone(list(shows))
        for many in (4, 5):
            for shows in itertools.product(RIGHT_KINDS, repeat=many):
                self.hold_alone(list(shows))

    def test_drawn_shows(self):
        draw = random.Random(1901)
        told = [self.hold_alone(drawn_shows(draw, draw.randint(0, 9))) for number in range(250)]
        self.assertGreater(len([answer for answer in told if answer[0] == "none" and answer[1] == answer[2]]), 10)
        self.assertGreater(len([answer for answer in told if answer[0] == "none" and answer[1] < answer[2]]), 15)
        self.assertGreater(len([answer for answer in told if answer[0] == "wheel" and answer[1] > 3]), 20)

    def test_behind_drawn_trains(self):
        draw = random.Random(1902)
        told = [self.hold_behind(*drawn_behind(draw, most=8)) for number in range(300)]
        self.assertGreater(len([answer for answer in told if answer[0] == "none" and answer[1] == answer[2]]), 10)
        self.assertGreater(len([answer for answer in told if answer[0] == "none" and answer[1] < answer[2]]), 10)
        self.assertGreater(len([answer for answer in told if answer[0] == "wheel" and answer[1] > 1]), 40)

    def test_behind_long_trains(self):
        draw = random.Random(1903)
        for train in LONG_TRAINS:
            for number in range(8):
                stand = drawn_stand(draw, train)
                self.hold_behind(train, stand, drawn_shows(draw, 8, train, stand))

    def test_behind_a_wheel_that_gives_each_push_on(self):
        draw = random.Random(1904)
        for number in range(100):
            shows = drawn_shows(draw, draw.randint(0, 30))
            self.assertTrue(same_kind(smallest_behind(THROUGH, (0,), shows), smallest(shows)))

    def test_by_hand(self):
        self.assertEqual(smallest([]), ("wheel", 1, (), []))
        self.assertEqual(smallest([(1, 0)]), ("wheel", 1, (), []))
        self.assertEqual(smallest([(1, 1)]), ("wheel", 1, (0,), []))
        self.assertEqual(smallest([(-1, -1)]), ("wheel", 1, (0,), []))
        self.assertEqual(smallest([(1, 1), (1, 0)]), ("wheel", 2, (1,), [(0, 1)]))
        self.assertEqual(smallest([(1, 0), (1, 1)]), ("wheel", 2, (0,), [(0, 1)]))
        # By -1 the tooth is left that was come to by 1 ahead.
        self.assertEqual(smallest([(1, 1), (-1, -1)]), ("wheel", 1, (0,), []))
        self.assertEqual(smallest([(1, 1), (-1, 0)]), ("none", 0, 1))
        self.assertEqual(smallest([(1, 0), (-1, -1)]), ("none", 0, 1))
        self.assertEqual(smallest([(-1, -1), (1, 0)]), ("none", 0, 1))
        self.assertEqual(smallest([(-1, 0), (-1, -1)]), ("wheel", 2, (1,), [(0, 1)]))
        told = smallest([(1, 0), (1, 0), (1, 1), (1, 0)])
        self.assertEqual(told[:3], ("wheel", 3, (0,)))
        self.assertEqual(smallest([(1, 0), (1, 0), (1, 1), (1, 0), (1, 0), (1, 0)])[1], 4)
        self.assertEqual(smallest([(1, -1)]), ("none", 0, 0))
        self.assertEqual(smallest([(1, 1), (-1, 0), (-1, 1), (1, -1)]), ("none", 2, 2))
        # Teeth below 0 are counted round, too.
        self.assertEqual(smallest([(-1, 0), (-1, 0), (-1, -1)])[:3], ("wheel", 3, (1,)))

    def test_behind_by_hand(self):
        click, stand = [CLICK], (0,)
        self.assertEqual(smallest_behind(click, stand, []), ("wheel", 1, (), []))
        self.assertEqual(smallest_behind(click, stand, [(-1, 0)] * 5), ("wheel", 1, (), []))
        self.assertEqual(smallest_behind(click, stand, [(-1, 0), (-1, -1), (1, 1)]), ("none", 1, 1))
        self.assertEqual(smallest_behind(click, stand, [(-1, 0), (1, 1), (-1, 0), (1, 0)]),
                         ("wheel", 2, (1,), [(1, 3)]))
        self.assertEqual(smallest_behind(click, stand, [(1, -1)]), ("none", 0, 0))
        spring = [("spring", 2)]
        self.assertEqual(smallest_behind(spring, (0,), [(1, 0), (1, 1), (1, 0), (1, 0)]), ("wheel", 2, (1,), [(1, 3)]))
        self.assertEqual(smallest_behind(spring, (0,), [(1, 1)]), ("none", 0, 0))
        self.assertEqual(smallest_behind(spring, (1,), [(1, 1)]), ("wheel", 1, (0,), []))
        self.assertEqual(smallest_behind([("wheel", 3, (1,))], (0,), [(1, 1), (-1, 0)]), ("none", 0, 1))
        self.assertEqual(smallest_behind([("wheel", 3, (1,))], (0,), [(1, 1), (-1, -1)]), ("wheel", 1, (0,), []))
        self.assertEqual(smallest_behind([ROCKER], (0,), [(1, 1), (1, 0), (-1, 0), (1, 0)]),
                         ("wheel", 2, (1,), [(0, 3)]))

    def test_three_hundred_pushes(self):
        shows = [(1, 0)] * 299 + [(1, 1)]
        told = smallest(shows)
        self.assertEqual(told[:3], ("wheel", 300, (0,)))
        self.assertEqual([bar[1] for bar in told[3]], [299] * 299)
        self.assertTrue(all(is_bar_by_words([], (), teeth, shows, bar) for teeth, bar in enumerate(told[3], start=1)))
        self.assertIs(is_smallest(shows, told), True)
        self.assertEqual(smallest([(-1, -1)] + [(-1, 0)] * 299)[:3], ("wheel", 300, (0,)))
        self.assertEqual(smallest([(1, 0)] * 150 + [(-1, 0)] * 149 + [(-1, -1)]), ("none", 0, 299))
        self.assertEqual(smallest([(1, 1), (-1, -1)] * 150), ("wheel", 1, (0,), []))

    def test_behind_a_train_of_very_many_stands(self):
        train = [("wheel", HUGE, (1, 3)), ("spring", HUGE)]
        shows = [(1, 1), (1, 0), (-1, 0), (-1, 0)]
        self.assertEqual(smallest_behind(train, (0, HUGE - 1), shows), ("wheel", 1, (0,), []))
        self.assertEqual(smallest_behind(train, (0, HUGE - 2), shows), ("none", 0, 0))


class Judges(unittest.TestCase):
    def hold(self, train, stand, shows, thing):
        right = judge_by_words(train, stand, shows, thing)
        if train:
            told = is_smallest_behind(train, stand, shows, thing)
        else:
            told = is_smallest(shows, thing)
            self.assertIs(is_smallest_behind(THROUGH, (0,), shows, thing), right, (shows, thing))
        self.assertIs(told, right, (train, stand, shows, thing))
        return right

    def test_told_ones_bent(self):
        draw = random.Random(2201)
        let_by = 0
        for number in range(150):
            shows = drawn_shows(draw, draw.randint(0, 9))
            for thing in some_bent(smallest(shows), number, 200):
                let_by += self.hold([], (), shows, thing)
        self.assertGreater(let_by, 100)

    def test_told_ones_behind_a_train_bent(self):
        draw = random.Random(2202)
        let_by = 0
        for number in range(150):
            asked = drawn_behind(draw)
            for thing in some_bent(smallest_behind(*asked), number, 200):
                let_by += self.hold(*asked, thing)
        self.assertGreater(let_by, 100)

    def test_all_papers_of_small_numbers(self):
        draw = random.Random(2203)
        let_by = 0
        for number in range(60):
            asked = drawn_behind(draw, most=5, parts=2)
            if number % 2:
                asked = ([], (), drawn_shows(draw, draw.randint(0, 5), most=3))
            numbers = range(-1, len(asked[2]) + 1)
            twos = list(itertools.product(numbers, repeat=2))
            for j, k in twos:
                let_by += self.hold(*asked, ("none", j, k))
            for teeth in range(0, 4):
                for marks in all_marks(teeth):
                    let_by += self.hold(*asked, ("wheel", teeth, marks, []))
                    for bar in twos:
                        let_by += self.hold(*asked, ("wheel", teeth, marks, [bar]))
        self.assertGreater(let_by, 80)

    def test_marks_that_are_not_passed(self):
        for asked in [([], (), []), ([CLICK], (0,), [(-1, 0)] * 3), ([("spring", 4)], (1,), [(1, 0), (-1, 0), (1, 0)]),
                      ([("wheel", 3, ())], (0,), [(1, 0)] * 7)]:
            for thing, right in [(("wheel", 1, (), []), True), (("wheel", 1, (0,), []), True),
                                 (("wheel", 2, (), []), False), (("wheel", 2, (0,), [(0, 1)]), False),
                                 (("wheel", 1, (0, 0), []), False), (("wheel", 1, (1,), []), False)]:
                self.assertIs(self.hold(*asked, thing), right, (asked, thing))
        shows = [(1, 1), (1, 0), (1, 0), (-1, 0), (-1, 0), (-1, -1), (-1, -1), (-1, 0)]
        told = smallest(shows)
        self.assertEqual(told[:3], ("wheel", 4, (0, 1)))
        for marks in [(), (0,), (1,), (1, 0), (0, 1, 2), (0, 1, 1), (0, 1, 4), (-1, 0, 1), [0, 1]]:
            self.assertIs(is_smallest(shows, ("wheel", 4, marks, told[3])), False, marks)

    def test_none_whatever_is_shown_at_others(self):
        shows = [(1, -1), (-1, 0), (1, 0), (-1, -1), (1, -1)]
        self.assertEqual(smallest(shows), ("none", 0, 0))
        for j, k, right in [(0, 0, True), (4, 4, True), (1, 1, False), (2, 2, False), (3, 3, False), (1, 3, True),
                            (2, 3, True), (3, 1, False), (3, 4, False), (0, 1, True), (0, 2, True), (0, 4, False),
                            (1, 2, False), (-1, -1, False), (5, 5, False), (0, 5, False), (-5, 1, False)]:
            self.assertIs(is_smallest(shows, ("none", j, k)), right, (j, k))
            self.hold([], (), shows, ("none", j, k))

    def test_where_nothing_comes_no_tooth_is_passed(self):
        shows = [(1, 1), (-1, 0), (1, 1)]
        self.assertIs(is_smallest_behind([CLICK], (0,), shows, ("none", 0, 1)), False)
        self.assertIs(is_smallest_behind([CLICK], (0,), shows, ("none", 1, 1)), False)
        self.assertIs(is_smallest_behind([CLICK], (0,), shows, ("wheel", 1, (0,), [])), True)
        self.assertIs(is_smallest(shows, ("none", 0, 1)), True)
        shows = [(-1, 0), (1, 1), (1, 1)]
        self.assertIs(is_smallest_behind([CLICK], (0,), shows, ("wheel", 2, (0, 1), [(0, 1)])), False)
        shows = [(1, 0), (-1, -1)]
        self.assertIs(is_smallest_behind([CLICK], (0,), shows, ("none", 0, 1)), False)
        self.assertIs(is_smallest_behind([CLICK], (0,), shows, ("none", 1, 1)), True)

    def test_a_great_number_of_teeth(self):
        shows = [(1, 1), (1, 0)]
        for teeth in (HUGE, 10 ** 400, -HUGE):
            for marks in ((), (1,), (0, 1), (teeth - 1,), (1, teeth - 1)):
                for bars in ([], [(0, 1)], [(0, 1)] * 300):
                    self.assertIs(is_smallest(shows, ("wheel", teeth, marks, bars)), False)
                    self.assertIs(is_smallest_behind(THROUGH, (0,), shows, ("wheel", teeth, marks, bars)), False)

    def test_a_truth_for_a_number(self):
        shows = [(1, 1), (1, 0)]
        self.assertIs(is_smallest(shows, ("wheel", 2, (1,), [(0, 1)])), True)
        for thing in [("wheel", 2, (True,), [(0, 1)]), ("wheel", 2, (1,), [(False, 1)]),
                      ("wheel", 2, (1,), [(0, True)]), ("wheel", 2, (1,), [(False, True)]),
                      ("wheel", 2, (1,), True), ("wheel", 2, True, [(0, 1)])]:
            self.assertIs(is_smallest(shows, thing), False, thing)
        self.assertIs(is_smallest([(1, 1)], ("wheel", 1, (0,), [])), True)
        for thing in [("wheel", True, (0,), []), ("wheel", 1, (False,), []), ("wheel", True, (False,), [])]:
            self.assertIs(is_smallest([(1, 1)], thing), False, thing)
        shows = [(1, 1), (-1, 0), (1, -1)]
        for thing in [("none", 0, 1), ("none", 2, 2)]:
            self.assertIs(is_smallest(shows, thing), True, thing)
        for thing in [("none", False, 1), ("none", 0, True), ("none", False, True)]:
            self.assertIs(is_smallest(shows, thing), False, thing)
        for thing in [("none", False, False), ("none", 0, False), ("none", False, 0)]:
            self.assertIs(is_smallest([(1, -1)], thing), False, thing)

    def test_things_that_are_no_paper(self):
        for shows in [[(1, 1), (1, 0)], [(1, 1), (-1, 0)], [(1, 1)], [(1, 0), (-1, 0), (1, 1), (1, 0)]]:
            for thing in NO_PAPERS:
                self.assertIs(is_smallest(shows, thing), False, (shows, thing))
                self.assertIs(is_smallest_behind([CLICK], (0,), shows, thing), False, (shows, thing))
                self.assertIs(is_smallest_behind(THROUGH, (0,), shows, thing), False, (shows, thing))

    def test_a_right_paper_of_another_question(self):
        shows = [(1, 1), (1, 0), (1, 0), (1, 1)]
        told = smallest(shows)
        self.assertEqual(told[:3], ("wheel", 3, (1,)))
        self.assertIs(is_smallest(shows, told), True)
        self.assertIs(is_smallest(shows[:3] + [(1, 0)], told), False)
        self.assertIs(is_smallest(shows[:1], told), False)
        self.assertIs(is_smallest(shows + [(1, 0)], told), True)
        self.assertIs(is_smallest_behind([CLICK], (0,), shows, told), True)
        self.assertIs(is_smallest_behind([("spring", 2)], (0,), shows, told), False)


class Teeth(unittest.TestCase):
    def test_all_wheels_of_few_teeth(self):
        draw = random.Random(2401)
        for number in range(150):
            shows = drawn_shows(draw, draw.randint(0, 9))
            right = [teeth for teeth in range(1, 10) if marks_that_do([], (), teeth, shows)]
            self.assertTrue(same_kind(teeth_of(shows, 9), right), shows)
            for most in (1, 2, 5, 8):
                self.assertEqual(teeth_of(shows, most), [teeth for teeth in right if teeth <= most])

    def test_from_1_to_200(self):
        draw = random.Random(2402)
        for number in range(12):
            shows = drawn_shows(draw, draw.randint(20, 300), most=40)
            right = []
            for teeth in range(1, 201):
                passed = passed_by_words([], (), teeth, shows)
                marks = tuple(sorted({place for place, (way, shown) in zip(passed, shows) if shown != 0}))
                if does_by_words([], (), teeth, marks, shows):
                    right.append(teeth)
            for most in range(1, 201):
                self.assertEqual(teeth_of(shows, most), [teeth for teeth in right if teeth <= most])

    def test_by_hand(self):
        self.assertEqual(teeth_of([], 200), list(range(1, 201)))
        self.assertEqual(teeth_of([(1, 1), (1, 0)], 5), [2, 3, 4, 5])
        self.assertEqual(teeth_of([(1, 0), (1, 0), (1, 0), (1, 0), (1, 1)], 8), [5, 6, 7, 8])
        self.assertEqual(teeth_of([(1, 1), (1, 0), (1, 1), (1, 0), (1, 1), (1, 0)], 8), [2, 4, 6, 7, 8])
        self.assertEqual(teeth_of([(1, 1), (-1, 0)], 200), [])
        self.assertEqual(teeth_of([(1, 0), (1, -1)], 200), [])
        self.assertEqual(teeth_of([(1, 1), (1, 0)], 1), [])

    def test_the_least_is_that_of_the_smallest(self):
        draw = random.Random(2403)
        for number in range(200):
            shows = drawn_shows(draw, draw.randint(0, 40))
            told = smallest(shows)
            self.assertEqual(teeth_of(shows, 200)[:1], [told[1]] if told[0] == "wheel" else [])

    def test_refusals_in_their_turn(self):
        for most in (0, -1, 201, HUGE, -HUGE):
            for shows in ([], [(1, 1)], [(1, -1)]):
                self.assertIs(refusal(teeth_of, shows, most), NoCount, most)
            for shows in no_shows():
                self.assertIs(refusal(teeth_of, shows, most), NoRow, shows)
        for most in (1, 2, 199, 200):
            self.assertIsNone(refusal(teeth_of, [(1, 1)], most))
            for shows in no_shows():
                self.assertIs(refusal(teeth_of, shows, most), NoRow, shows)


class Refusals(unittest.TestCase):
    def test_what_are_no_shows(self):
        for shows in no_shows():
            self.assertIs(refusal(smallest, shows), NoRow, shows)
            for thing in (None, ("wheel", 1, (), [])):
                self.assertIs(refusal(is_smallest, shows, thing), NoRow, shows)
            for train in (THROUGH, LONG_TRAINS[0]):
                stand = tuple(0 for part in train)
                self.assertIs(refusal(smallest_behind, train, stand, shows), NoRow, shows)
                self.assertIs(refusal(is_smallest_behind, train, stand, shows, None), NoRow, shows)
        for shows in ([], KINDS, [(1, 1)] * 300, [(-1, 1)] * 300):
            self.assertIsNone(refusal(smallest, shows))
            self.assertIsNone(refusal(smallest_behind, THROUGH, (0,), shows))

    def test_each_in_its_turn(self):
        for ask, rest in [(smallest_behind, ()), (is_smallest_behind, (None,))]:
            for thing in NO_TRAINS:
                for stand, shows in [((0,), []), (None, None), ((9, 9), [(1, True)])]:
                    self.assertIs(refusal(ask, thing, stand, shows, *rest), NoTrain, thing)
            for train in LONG_TRAINS[:4]:
                for stand in no_stands(train):
                    for shows in ([], None, [(1, True)]):
                        self.assertIs(refusal(ask, train, stand, shows, *rest), NoStand, stand)


class HandedIn(unittest.TestCase):
    def test_lists_are_the_askers_own(self):
        draw = random.Random(2501)
        for number in range(60):
            shows = drawn_shows(draw, draw.randint(0, 12))
            told = asked_twice(smallest, shows)
            self.assertIs(asked_twice(is_smallest, shows, told), True)
            asked_twice(teeth_of, shows, 20)
            asked = drawn_behind(draw)
            told = asked_twice(smallest_behind, *asked)
            self.assertIs(asked_twice(is_smallest_behind, *asked, told), True)

    def test_what_is_changed_later_is_told_anew(self):
        shows = [(1, 1), (1, 0)]
        told, teeth = smallest(shows), teeth_of(shows, 3)
        shows[1] = (1, 1)
        self.assertEqual(smallest(shows), ("wheel", 1, (0,), []))
        self.assertEqual(teeth_of(shows, 3), [1, 2, 3])
        self.assertEqual((told, teeth), (("wheel", 2, (1,), [(0, 1)]), [2, 3]))
        self.assertIs(is_smallest(shows, told), False)


if __name__ == "__main__":
    unittest.main()
