"""Points 2, 4, 5, 16, 17 and 18: clicktrain/worn.py."""

import inspect
import random
import unittest

from clicktrain import worn as module
from clicktrain.errors import NoRow, NoStand, NoTrain, TooMany
from clicktrain.worn import explained, shows_groups, wear_groups, wears, worn
from tests.plain import (CLICK, FULL_TRAINS, HUGE, LONG_TRAINS, NO_NUMBERS, NO_PAPERS, NO_TRAINS, ROCKER, TRAINS,
                         asked_twice, drawn_stand, drawn_train, has_form, list_of, no_keys, no_stands,
                         push_by_words, push_form, refusal, same_kind, some_bent, stand_form)


def wears_by_words(train):
    return [None] + sorted((i, mark) for i in range(len(train)) if train[i][0] == "wheel" for mark in train[i][2])


def worn_by_words(train, wear):
    train = list(train)
    if wear is not None:
        kind, teeth, marks = train[wear[0]]
        train[wear[0]] = (kind, teeth, tuple(sorted(set(marks) - {wear[1]})))
    return train


def shown_by_words(train, stand, pushes):
    shown = []
    for i, way in pushes:
        stand, gives = push_by_words(train, stand, i, way)
        shown.append(gives)
    return shown


def explained_by_words(train, stand, shows):
    pushes, right = [push[:2] for push in shows], [push[2] for push in shows]
    return [wear for wear in wears_by_words(train)
            if shown_by_words(worn_by_words(train, wear), stand, pushes) == right]


def both_pushed(one, other, pair, push):
    stand, shown = push_by_words(one, pair[0], *push)
    there, shown_there = push_by_words(other, pair[1], *push)
    return (stand, there), shown == shown_there


def all_pushes(keys):
    return [(i, way) for i in keys for way in (1, -1)]


def held_by_words(one, other, stand, keys):
    """("alike", all pairs that come), or ("apart", how few pushes show unlike)."""
    come, last, many = {(stand, stand)}, {(stand, stand)}, 0
    while last:
        many += 1
        steps = [both_pushed(one, other, pair, push) for pair in last for push in all_pushes(keys)]
        if not all(same for to, same in steps):
            return "apart", many
        last = {to for to, same in steps} - come
        come |= last
    return "alike", sorted(come)


def groups_by_words(train, stand, keys):
    """The groups, how few pushes tell each two apart, and the pairs."""
    every = wears_by_words(train)
    held = {(one, other): held_by_words(worn_by_words(train, one), worn_by_words(train, other), stand, keys)
            for one in every for other in every}
    group_of = {wear: [other for other in every if held[wear, other][0] == "alike"] for wear in every}
    groups = [group_of[wear] for wear in every if group_of[wear][0] == wear]
    fewest = [held[one[0], other[0]][1] for at, one in enumerate(groups) for other in groups[at + 1:]]
    pairs = [held[group_of[wear][0], wear][1] for wear in every if group_of[wear][0] != wear]
    return groups, fewest, pairs


def groups_form(train, thing):
    """Each wear once, each list in order, lists in the order of their first ones."""
    every = wears_by_words(train)
    if not list_of(list_of(lambda wear: any(same_kind(wear, one) for one in every)))(thing) or [] in thing:
        return False
    places = [[every.index(wear) for wear in group] for group in thing]
    told = [place for group in places for place in group]
    return (sorted(told) == list(range(len(every))) and all(group == sorted(group) for group in places)
            and places == sorted(places))


def pairs_hold_by_words(train, stand, keys, first, wear, pairs):
    if len(set(pairs)) != len(pairs) or (stand, stand) not in pairs:
        return False
    steps = [both_pushed(worn_by_words(train, first), worn_by_words(train, wear), pair, push)
             for pair in pairs for push in all_pushes(keys)]
    return all(same and to in pairs for to, same in steps)


def judge_by_words(train, stand, keys, thing):
    is_pair = lambda pair: has_form(pair, tuple, stand_form(train), stand_form(train))
    if not has_form(thing, tuple, lambda groups: groups_form(train, groups), list_of(list_of(push_form(keys))),
                    list_of(list_of(is_pair))):
        return False
    groups, pushes, pairs = thing
    two = [(one[0], other[0]) for at, one in enumerate(groups) for other in groups[at + 1:]]
    later = [(group[0], wear) for wear in wears_by_words(train) for group in groups if wear in group[1:]]
    if len(two) != len(pushes) or len(later) != len(pairs) or [] in pushes:
        return False
    for (one, other), row in zip(two, pushes):
        shown = [shown_by_words(worn_by_words(train, wear), stand, row)[-1] for wear in (one, other)]
        if shown[0] == shown[1]:
            return False
    return all(pairs_hold_by_words(train, stand, keys, first, wear, told) for (first, wear), told in zip(later, pairs))


def drawn_asked(draw, stands=24, most=12):
    while True:
        train = drawn_train(draw, longest=4, most=6, stands=stands)
        if len(wears_by_words(train)) <= most:
            keys = [i for i in range(len(train)) if draw.random() < 0.6]
            draw.shuffle(keys)
            return train, drawn_stand(draw, train), keys


# Of some groups and some wears that are never told apart.
SOME = [
    ([("wheel", 4, (0, 2)), ("wheel", 3, (0, 1))], (0, 0), [0]),
    ([("wheel", 3, (0, 1)), CLICK, ("spring", 2)], (2, 0, 1), [0]),
    ([("wheel", 2, (0, 1)), ROCKER, ("wheel", 3, (0, 2))], (0, 0, 0), [0]),
    ([("wheel", 2, (0, 1)), ("wheel", 2, (0,)), ("wheel", 2, ())], (0, 0, 0), [0, 1]),
    ([("wheel", 3, (0, 1, 2)), ("wheel", 2, (1,))], (1, 1), [1]),
    ([CLICK, ("wheel", 4, (1, 3))], (0, 0), [0, 1]),
]

# The later wears of the groups do not come group by group.
MIXED = [
    ([("wheel", 2, (0, 1)), ("wheel", 2, (0, 1)), CLICK], (1, 0, 0), [2, 0]),
    ([("wheel", 6, (0, 3, 4, 5)), ("wheel", 3, (2,)), ("spring", 1)], (4, 0, 0), [0]),
    ([("wheel", 4, (1, 3)), ("wheel", 2, (0, 1))], (0, 0), [0]),
]


class Interface(unittest.TestCase):
    def test_names_and_arguments(self):
        told = {"wears": ["train"], "worn": ["train", "wear"], "explained": ["train", "stand", "shows"],
                "wear_groups": ["train", "stand", "keys"], "shows_groups": ["train", "stand", "keys", "thing"]}
        for name, arguments in told.items():
            function = getattr(module, name)
            self.assertEqual(function.__module__, "clicktrain.worn")
            self.assertEqual(list(inspect.signature(function).parameters), arguments)


class Wears(unittest.TestCase):
    def test_all_wears_in_order(self):
        for train in TRAINS + FULL_TRAINS:
            self.assertTrue(same_kind(wears(train), wears_by_words(train)), train)

    def test_by_hand(self):
        self.assertEqual(wears([CLICK]), [None])
        self.assertEqual(wears([ROCKER, ("spring", 5), ("wheel", 3, ())]), [None])
        self.assertEqual(wears([("wheel", 12, (2, 10)), CLICK, ("wheel", 3, (0,))]), [None, (0, 2), (0, 10), (2, 0)])
        self.assertEqual(wears([("wheel", HUGE, (0, HUGE - 1))]), [None, (0, 0), (0, HUGE - 1)])
        self.assertEqual(len(wears([("wheel", 80, tuple(range(40)))] * 8)), 321)

    def test_a_worn_train(self):
        for train in TRAINS:
            for wear in wears_by_words(train):
                told = worn(train, wear)
                self.assertTrue(same_kind(told, worn_by_words(train, wear)), (train, wear))
                self.assertIsNot(told, train)

    def test_worn_by_hand(self):
        train = [("wheel", 5, (0, 1, 4)), ROCKER, ("wheel", 5, (1,))]
        self.assertEqual(worn(train, None), train)
        self.assertEqual(worn(train, (0, 0)), [("wheel", 5, (1, 4)), ROCKER, ("wheel", 5, (1,))])
        self.assertEqual(worn(train, (0, 1)), [("wheel", 5, (0, 4)), ROCKER, ("wheel", 5, (1,))])
        self.assertEqual(worn(train, (0, 4)), [("wheel", 5, (0, 1)), ROCKER, ("wheel", 5, (1,))])
        self.assertEqual(worn(train, (2, 1)), [("wheel", 5, (0, 1, 4)), ROCKER, ("wheel", 5, ())])
        self.assertEqual(worn([("wheel", HUGE, (0, HUGE - 1))], (0, HUGE - 1)), [("wheel", HUGE, (0,))])

    def test_refusals(self):
        for thing in NO_TRAINS:
            self.assertIs(refusal(wears, thing), NoTrain, thing)
            self.assertIs(refusal(worn, thing, None), NoTrain, thing)
            self.assertIs(refusal(worn, thing, (0, 0)), NoTrain, thing)


class Explained(unittest.TestCase):
    def hold(self, train, stand, shows):
        told = explained(train, stand, shows)
        right = explained_by_words(train, stand, shows)
        self.assertTrue(same_kind(told, right), (train, stand, shows, told, right))
        return right

    def test_what_a_wear_shows_and_near_to_it(self):
        draw = random.Random(981)
        counts = []
        for number in range(300):
            train = drawn_train(draw, stands=200)
            stand = drawn_stand(draw, train)
            wear = draw.choice(wears_by_words(train))
            pushes = [(draw.randrange(len(train)), draw.choice((1, 1, -1))) for push in range(draw.randint(0, 12))]
            shown = shown_by_words(worn_by_words(train, wear), stand, pushes)
            shows = [(i, way, gives) for (i, way), gives in zip(pushes, shown)]
            told = self.hold(train, stand, shows)
            self.assertIn(wear, told)
            counts.append(len(told))
            for at, (i, way, gives) in enumerate(shows):
                for other in (1, -1, 0):
                    self.hold(train, stand, shows[:at] + [(i, way, other)] + shows[at + 1:])
        self.assertGreater(len([count for count in counts if count == 1]), 60)
        self.assertGreater(len([count for count in counts if count > 2]), 60)

    def test_by_hand(self):
        train = [("wheel", 4, (1, 2)), CLICK]
        self.assertEqual(explained(train, (0, 0), []), [None, (0, 1), (0, 2)])
        self.assertEqual(explained(train, (0, 0), [(0, 1, 1)]), [None, (0, 2)])
        self.assertEqual(explained(train, (0, 0), [(0, 1, 0)]), [(0, 1)])
        self.assertEqual(explained(train, (0, 0), [(0, 1, 1), (0, 1, 0)]), [(0, 2)])
        self.assertEqual(explained(train, (0, 0), [(0, 1, 0), (0, 1, 0)]), [])
        self.assertEqual(explained(train, (0, 0), [(0, 1, -1)]), [])
        self.assertEqual(explained(train, (0, 0), [(1, 1, 1), (1, -1, 0)]), [None, (0, 1), (0, 2)])
        self.assertEqual(explained(train[:1], (2,), [(0, -1, 0)]), [(0, 2)])
        self.assertEqual(explained(train[:1], (2,), [(0, -1, -1), (0, -1, -1)]), [None])

    def test_great_trains_and_many_shows(self):
        train = [("wheel", HUGE, tuple(range(1, 41)))] * 8
        shows = [(7, 1, 1)] * 40 + [(7, -1, -1)] * 39 + [(6, 1, 0)] * 200
        self.hold(train, (0,) * 8, shows[:79])
        self.assertEqual(explained(train, (0,) * 8, shows[:20]),
                         [wear for wear in wears_by_words(train) if wear is None or wear[0] < 7 or wear[1] > 20])
        self.assertEqual(len(explained(train, (0,) * 7 + (100,), [(7, 1, 0)] * 300)), 321)
        self.hold(train, (0,) * 8, shows)

    def no_shows(self, parts):
        found = [None, True, 0, "", "0+=1", (), ((0, 1, 1),), [None], [0], [()], [[]], [[0, 1, 1]], [(0, 1)], [(0,)],
                 [(0, 1, 1, 1)], [((0, 1, 1),)], [[(0, 1, 1)]], [(-1, 1, 1)], [(parts, 1, 1)], [(HUGE, 1, 0)],
                 [(0, 0, 0)], [(0, 2, 1)], [(0, -2, 1)], [(0, 1, 2)], [(0, 1, -2)], [(0, 1, HUGE)],
                 [(0, 1, 0), (0, 1, True)], [(True, 1, 0), (0, 1, 0)], [(0, 1, 0)] * 299 + [(0, 1, None)]]
        for wrong in NO_NUMBERS:
            found += [[(wrong, 1, 1)], [(0, wrong, 1)], [(0, 1, wrong)]]
        return found

    def test_refusals_in_their_turn(self):
        for train in [[CLICK], LONG_TRAINS[0], LONG_TRAINS[4]]:
            stand = tuple(0 for part in train)
            for shows in self.no_shows(len(train)):
                self.assertIs(refusal(explained, train, stand, shows), NoRow, shows)
            for wrong in no_stands(train):
                for shows in ([], None, [(0, 1, True)]):
                    self.assertIs(refusal(explained, train, wrong, shows), NoStand, wrong)
            for shows in ([], [(len(train) - 1, -1, -1)], [(0, 1, 0)] * 300):
                self.assertIsNone(refusal(explained, train, stand, shows))
        for thing in NO_TRAINS:
            for stand, shows in [((0,), []), (None, None), ((9,), [(0, 1, True)])]:
                self.assertIs(refusal(explained, thing, stand, shows), NoTrain, thing)


class Groups(unittest.TestCase):
    def hold(self, train, stand, keys):
        asked = (train, stand, keys)
        told = wear_groups(*asked)
        groups, fewest, pairs = groups_by_words(*asked)
        self.assertTrue(has_form(told, tuple, lambda thing: same_kind(thing, groups),
                                 list_of(list_of(push_form(keys))),
                                 lambda thing: same_kind(thing, pairs)), (asked, told, groups, pairs))
        self.assertEqual([len(row) for row in told[1]], fewest, (asked, told))
        self.assertTrue(judge_by_words(*asked, told), (asked, told))
        self.assertIs(shows_groups(*asked, told), True, (asked, told))
        return told

    def test_drawn_trains(self):
        draw = random.Random(991)
        told = [self.hold(*drawn_asked(draw)) for number in range(250)]
        self.assertGreater(len([answer for answer in told if len(answer[0]) > 2]), 50)
        self.assertGreater(len([answer for answer in told if len(answer[0]) > 1 and answer[2]]), 8)
        self.assertGreater(len([answer for answer in told if any(len(row) > 3 for row in answer[1])]), 20)
        self.assertGreater(len([answer for answer in told if any(len(pairs) > 5 for pairs in answer[2])]), 8)

    def test_some(self):
        for asked in SOME + MIXED:
            self.hold(*asked)

    def test_by_hand(self):
        self.assertEqual(wear_groups([CLICK], (0,), [0]), ([[None]], [], []))
        self.assertEqual(wear_groups([("wheel", 2, (0,))], (1,), []), ([[None, (0, 0)]], [], [[((1,), (1,))]]))
        self.assertEqual(wear_groups([("wheel", 1, (0,))], (0,), [0])[0], [[None], [(0, 0)]])
        self.assertEqual(wear_groups([("wheel", 4, (0, 2))], (0,), [0])[0], [[None], [(0, 0)], [(0, 2)]])
        told = wear_groups([("wheel", 4, (0, 2)), ("wheel", 3, ())], (0, 1), [0])
        self.assertEqual(told[0], [[None, (0, 0), (0, 2)]])
        self.assertEqual(told[1], [])
        self.assertEqual([len(pairs) for pairs in told[2]], [12, 12])
        # By -1 alone the first mark is left at once; the second only behind that.
        told = wear_groups([("wheel", 9, (0, 2))], (2,), [0])
        self.assertEqual([len(row) for row in told[1]], [3, 1, 1])

    def test_pairs_stand_in_the_order_of_the_wears(self):
        for asked in MIXED:
            groups, pushes, pairs = self.hold(*asked)
            order = wears_by_words(asked[0])
            by_groups = [wear for group in groups for wear in group[1:]]
            turned = [pairs[sorted(by_groups).index(wear)] for wear in by_groups]
            self.assertNotEqual(by_groups, [wear for wear in order if wear in by_groups])
            thing = (groups, pushes, turned)
            self.assertIs(shows_groups(*asked, thing), judge_by_words(*asked, thing))
        draw = random.Random(1000)
        for number in range(60):
            asked = drawn_asked(draw, stands=60)
            told = self.hold(*asked)
            self.assertEqual(len(told[2]), len(wears_by_words(asked[0])) - len(told[0]))

    def test_sixty_stands_and_twelve_wears(self):
        for train in [[("wheel", 60, tuple(range(0, 55, 5)))], [("wheel", 11, tuple(range(11)))],
                      [("wheel", 6, (0, 1, 3)), ("wheel", 10, (0, 2, 3, 4, 6, 7, 8, 9))],
                      [("wheel", 3, (0, 1, 2)), ("wheel", 20, tuple(range(8))), ("wheel", 1, ())]]:
            stand = tuple(0 for part in train)
            keys = list(range(len(train)))
            self.assertEqual(len(wears_by_words(train)), 12)
            self.hold(train, stand, keys[:1])
            self.assertIs(shows_groups(train, stand, keys, wear_groups(train, stand, keys)), True)


class Judge(unittest.TestCase):
    def hold(self, asked, thing):
        told = shows_groups(*asked, thing)
        right = judge_by_words(*asked, thing)
        self.assertIs(told, right, (asked, thing))
        return right

    def test_told_ones_bent(self):
        draw = random.Random(1101)
        let_by = 0
        for number, asked in enumerate(SOME + MIXED + [drawn_asked(draw, stands=12, most=7) for one in range(150)]):
            told = wear_groups(*asked)
            for thing in some_bent(told, number, 150):
                let_by += self.hold(asked, thing)
            for at in range(3):
                for inner in some_bent(told[at], number, 60):
                    let_by += self.hold(asked, told[:at] + (inner,) + told[at + 1:])
        self.assertGreater(let_by, 60)

    def test_pairs_in_any_order_and_more_of_them(self):
        asked = ([("wheel", 4, (0,)), ROCKER, ("wheel", 3, ())], (0, 0, 0), [1])
        groups, pushes, pairs = wear_groups(*asked)
        self.assertEqual((groups, pushes), ([[None, (0, 0)]], []))
        for told in (pairs[0], pairs[0][::-1]):
            self.assertIs(shows_groups(*asked, (groups, [], [told])), True)
        more = [((3, rocks, place), (3, rocks, place)) for rocks in (0, 1) for place in range(3)]
        self.assertIs(shows_groups(*asked, (groups, [], [pairs[0] + more])), True)
        self.assertIs(shows_groups(*asked, (groups, [], [more + pairs[0]])), True)
        self.assertIs(shows_groups(*asked, (groups, [], [more])), False)
        self.assertIs(shows_groups(*asked, (groups, [], [pairs[0] + more[:1]])), False)
        self.assertIs(shows_groups(*asked, (groups, [], [pairs[0] + pairs[0]])), False)
        self.assertIs(shows_groups(*asked, (groups, [], [pairs[0], pairs[0]])), False)
        self.assertIs(shows_groups(*asked, (groups, [], [pairs[0][1:]])), False)
        self.assertIs(shows_groups(*asked, (groups, [[(1, 1)]], pairs)), False)
        self.assertIs(shows_groups(*asked, ([[None], [(0, 0)]], [[(1, 1)]], [])), False)

    def test_any_pushes_that_show_unlike_at_the_last(self):
        asked = ([("wheel", 3, (0, 1))], (0,), [0])
        groups = [[None], [(0, 0)], [(0, 1)]]
        good = [[(0, -1)], [(0, 1)], [(0, 1)]]
        rows = [[], [(0, 1)], [(0, -1)], [(0, 1), (0, 1)], [(0, 1), (0, 1), (0, 1)], [(0, -1), (0, 1)],
                [(0, 1), (0, -1), (0, -1)], [(0, 1)] * 4, [(0, 1)] * 7, [(0, -1)] * 300 + [(0, -1)]]
        told = set()
        for at in range(3):
            for row in rows:
                told.add(self.hold(asked, (groups, good[:at] + [row] + good[at + 1:], [])))
        self.assertEqual(told, {True, False})
        self.assertIs(shows_groups(*asked, (groups, good, [])), True)
        self.assertIs(shows_groups(*asked, (groups, [good[0], [(0, 1)], []], [])), False)
        self.assertIs(shows_groups(*asked, (groups, good[:2], [])), False)
        self.assertIs(shows_groups(*asked, (groups, good + good[:1], [])), False)

    def test_groups_in_order(self):
        asked = ([("wheel", 2, (0, 1)), ("wheel", 3, ())], (0, 0), [1])
        self.assertEqual(wear_groups(*asked)[0], [[None, (0, 0), (0, 1)]])
        pairs = [((0, place), (0, place)) for place in range(3)]
        for groups in [[[None, (0, 1), (0, 0)]], [[(0, 0), None, (0, 1)]], [[None, (0, 0)]], [[None, (0, 0), (0, 0)]],
                       [[None, (0, 0), (0, 1), (0, 1)]], [[None, (0, 0), (0, 1)], []], [[], [None, (0, 0), (0, 1)]],
                       [(None, (0, 0), (0, 1))], ([None, (0, 0), (0, 1)],), [[None, (0, 0), (0, 2)]],
                       [[None, (False, 0), (0, 1)]], [[None, (0, False), (0, 1)]], [[None, (0, 0), (0, True)]],
                       [[None, [0, 0], (0, 1)]], [[0, (0, 0), (0, 1)]], [[False, (0, 0), (0, 1)]],
                       [[None, (0, 0), (0, 1), (1, 0)]], [[None, (0, 0), (0, 1, 1)]], [None, (0, 0), (0, 1)]]:
            for many in range(4):
                self.assertIs(shows_groups(*asked, (groups, [], [pairs] * many)), False, groups)
        self.assertIs(shows_groups(*asked, ([[None, (0, 0), (0, 1)]], [], [pairs, list(pairs)])), True)
        asked = ([("wheel", 2, (0, 1))], (0,), [0])
        told = wear_groups(*asked)
        self.assertEqual(told[0], [[None], [(0, 0)], [(0, 1)]])
        self.assertIs(shows_groups(*asked, told), True)
        one, other, third = told[1]
        self.assertIs(shows_groups(*asked, ([[None], [(0, 1)], [(0, 0)]], [other, one, third], [])), False)
        self.assertIs(shows_groups(*asked, ([[(0, 0)], [None], [(0, 1)]], [one, third, other], [])), False)

    def test_wears_that_are_told_apart_are_no_group(self):
        for asked in SOME:
            groups, pushes, pairs = wear_groups(*asked)
            train, stand, keys = asked
            every = wears_by_words(train)
            # All pairs that come, of the first wear with each other one, told apart or not.
            come = []
            for wear in every[1:]:
                found = {(stand, stand)}
                while True:
                    more = {both_pushed(train, worn_by_words(train, wear), pair, push)[0]
                            for pair in found for push in all_pushes(keys)} - found
                    if not more:
                        break
                    found |= more
                come.append(sorted(found))
            self.hold(asked, ([every], [], come))
            self.assertIs(shows_groups(*asked, ([every], [], come)), len(groups) == 1)

    def test_a_truth_for_a_number(self):
        asked = ([("wheel", 2, (0, 1)), ("wheel", 2, (0, 1)), ("wheel", 1, (0,))], (0, 0, 0), [1])
        told = wear_groups(*asked)
        self.assertEqual(told[0], [[None, (0, 0), (0, 1)], [(1, 0)], [(1, 1)], [(2, 0)]])
        found = 0
        for thing in some_bent(told, 7, 6000):
            if "True" in repr(thing) or "False" in repr(thing):
                found += 1
                self.assertIs(shows_groups(*asked, thing), False, thing)
        self.assertGreater(found, 500)
        groups, pushes, pairs = told
        for push in [(True, 1), (1, True)]:
            for at in range(len(pushes)):
                self.assertIs(shows_groups(*asked, (groups, pushes[:at] + [[push]] + pushes[at + 1:], pairs)), False)
        for pair in [((False, 0, 0), (0, 0, 0)), ((0, 0, 0), (0, False, 0))]:
            wrong = [pair if both == ((0, 0, 0), (0, 0, 0)) else both for both in pairs[0]]
            self.assertIs(shows_groups(*asked, (groups, pushes, [wrong, pairs[1]])), False)

    def test_things_that_are_no_paper(self):
        draw = random.Random(1103)
        for asked in SOME + [drawn_asked(draw) for number in range(10)] + [([CLICK], (0,), []), ([CLICK], (0,), [0])]:
            for thing in NO_PAPERS:
                self.assertIs(shows_groups(*asked, thing), False, (asked, thing))
        self.assertIs(shows_groups([CLICK], (0,), [], ([[None]], [], [])), True)

    def test_a_right_paper_of_another_question(self):
        asked = ([("wheel", 4, (0, 2))], (0,), [0])
        told = wear_groups(*asked)
        self.assertIs(shows_groups(*asked, told), True)
        self.assertIs(shows_groups(asked[0], (0,), [], told), False)
        self.assertIs(shows_groups([("wheel", 4, (0, 3))], (0,), [0], told), False)
        self.assertIs(shows_groups([("wheel", 4, (0,))], (0,), [0], told), False)
        self.assertIs(shows_groups([("wheel", 4, (0, 2)), CLICK], (0, 0), [0], told), False)

    def test_more_stands_and_wears_than_are_told_of(self):
        train = [("wheel", 2000, tuple(range(40))), ("wheel", HUGE, ())]
        every = wears_by_words(train)
        groups = [every]
        pairs = [[((5, 0), (5, 0))] for wear in every[1:]]
        self.assertIs(shows_groups(train, (5, 0), [], (groups, [], pairs)), True)
        self.assertIs(shows_groups(train, (5, 0), [], (groups, [], pairs[1:])), False)
        self.assertIs(shows_groups(train, (5, 0), [1], (groups, [], pairs)), False)
        train = [("wheel", 61, (0, 60))]
        groups = [[None], [(0, 0)], [(0, 60)]]
        pushes = [[(0, -1)], [(0, -1), (0, -1)], [(0, -1)]]
        self.assertIs(shows_groups(train, (0,), [0], (groups, pushes, [])), True)
        self.assertIs(shows_groups(train, (0,), [0], (groups, [pushes[0]] * 3, [])), False)
        train = [("wheel", 12, tuple(range(12)))]
        groups = [[wear] for wear in wears_by_words(train)]
        pushes = []
        for at, (one,) in enumerate(groups):
            for (other,) in groups[at + 1:]:
                place = other[1]
                pushes.append([(0, 1)] * (place if place else 12))
        self.assertIs(shows_groups(train, (0,), [0], (groups, pushes, [])), True)
        self.assertIs(shows_groups(train, (0,), [0], (groups, pushes[:-1] + [[(0, 1)] * 5], [])), False)


class Refusals(unittest.TestCase):
    def all_asked(self):
        return [(wear_groups, ()), (shows_groups, (None,)), (shows_groups, (([[None]], [], []),))]

    def test_each_in_its_turn(self):
        train = [("wheel", 61, tuple(range(12)))]
        for ask, rest in self.all_asked():
            for thing in NO_TRAINS:
                for stand, keys in [((0,), [0]), (None, None), ((9, 9), [0]), ((0,), None)]:
                    self.assertIs(refusal(ask, thing, stand, keys, *rest), NoTrain, thing)
            for wrong in no_stands(train):
                for keys in ([0], [], None, [1], [True]):
                    self.assertIs(refusal(ask, train, wrong, keys, *rest), NoStand, wrong)
            for keys in no_keys(1):
                self.assertIs(refusal(ask, train, (0,), keys, *rest), NoRow, keys)

    def test_what_are_no_keys(self):
        for train in LONG_TRAINS[:4]:
            stand = tuple(0 for part in train)
            for ask, rest in self.all_asked():
                for keys in no_keys(len(train)):
                    self.assertIs(refusal(ask, train, stand, keys, *rest), NoRow, keys)

    def test_too_many(self):
        for train in [[("wheel", 61, ())], [("spring", 61)], [ROCKER, ("wheel", 31, (0,))], [("wheel", HUGE, ())],
                      [("wheel", 12, tuple(range(12)))], [("wheel", 60, tuple(range(12)))], [("spring", HUGE)] * 8,
                      [("wheel", 6, tuple(range(6)))] * 2, [("wheel", 1, (0,))] * 8 + [("wheel", 4, (0, 1, 2, 3))],
                      *FULL_TRAINS]:
            stand = tuple(0 for part in train)
            for keys in ([], [0]):
                self.assertIs(refusal(wear_groups, train, stand, keys), TooMany, train)
                self.assertIsNone(refusal(shows_groups, train, stand, keys, None), train)
            self.assertIs(refusal(wear_groups, train, stand, None), NoRow, train)
            self.assertIs(refusal(wear_groups, train, None, []), NoStand, train)
        for train in [[("wheel", 60, ())], [("spring", 60)], [ROCKER, ("wheel", 30, (0,))], [CLICK] * 8,
                      [("wheel", 11, tuple(range(11)))], [("wheel", 60, tuple(range(11)))],
                      [("wheel", 1, (0,))] * 7 + [("wheel", 4, (0, 1, 2, 3))]]:
            stand = tuple(0 for part in train)
            for keys in ([], [0]):
                self.assertIsNone(refusal(wear_groups, train, stand, keys), train)


class HandedIn(unittest.TestCase):
    def test_lists_are_the_askers_own(self):
        draw = random.Random(1111)
        for asked in SOME + [drawn_asked(draw) for number in range(60)]:
            train, stand, keys = asked
            told = asked_twice(wear_groups, *asked)
            self.assertIs(asked_twice(shows_groups, *asked, told), True)
            for wear in asked_twice(wears, train):
                asked_twice(worn, train, wear)
            for i in range(len(train)):
                asked_twice(explained, train, stand, [(i, 1, 0), (i, -1, 0)])

    def test_what_is_changed_later_is_told_anew(self):
        train = [("wheel", 3, (0, 1))]
        told, kept, groups = wears(train), worn(train, (0, 0)), wear_groups(train, (0,), [0])
        train[0] = ("wheel", 3, (2,))
        self.assertEqual(wears(train), [None, (0, 2)])
        self.assertEqual(worn(train, (0, 2)), [("wheel", 3, ())])
        self.assertEqual(wear_groups(train, (0,), [0])[0], [[None], [(0, 2)]])
        self.assertEqual((told, kept), ([None, (0, 0), (0, 1)], [("wheel", 3, (1,))]))
        self.assertEqual(groups[0], [[None], [(0, 0)], [(0, 1)]])


if __name__ == "__main__":
    unittest.main()
