"""Points 1 to 5 over the whole program, and the whole interface."""

import ast
import importlib
import inspect
import pathlib
import random
import unittest

from clicktrain import errors
from clicktrain.alike import row_round, rows_alike
from clicktrain.errors import NoStand, NoTrain, TooMany
from clicktrain.joins import fed, joined, least_wheel, one_way, pairs_together, parted, spare, together
from clicktrain.makes import is_smallest_behind, smallest_behind
from clicktrain.rows import left, left_often
from clicktrain.shows import shows_alike, trains_alike
from clicktrain.texts import read_stand, read_train, show_stand, show_train
from clicktrain.trains import check_stand, check_train, pushed, stand_count, stands_of
from clicktrain.ways import fewest_deeds, least_pushes, shows_deeds, shows_never, shows_row
from clicktrain.worn import explained, shows_groups, wear_groups, wears, worn
from tests.plain import (CLICK, HUGE, LONG_TRAINS, NO_TRAINS, ROCKER, asked_twice, drawn_stand, drawn_train,
                         no_stands, push_by_words, refusal, row_by_words, stands_by_words)

PACKAGE = pathlib.Path(errors.__file__).resolve().parent

# The document's section "The interface", module by module.
INTERFACE = {
    "trains": {"check_train": "train", "check_stand": "train stand", "pushed": "train stand i way",
               "stand_count": "train", "stands_of": "train"},
    "rows": {"left": "train stand row", "left_often": "train stand row times"},
    "alike": {"rows_alike": "train one other", "row_round": "train row"},
    "shows": {"trains_alike": "train stand other there", "shows_alike": "train stand other there thing"},
    "ways": {"least_pushes": "train stand goal keys", "fewest_deeds": "train stand goal keys",
             "shows_row": "train stand goal keys thing", "shows_never": "train stand goal keys thing",
             "shows_deeds": "train stand goal keys thing"},
    "worn": {"wears": "train", "worn": "train wear", "explained": "train stand shows",
             "wear_groups": "train stand keys", "shows_groups": "train stand keys thing"},
    "makes": {"smallest": "shows", "is_smallest": "shows thing", "teeth_of": "shows most",
              "smallest_behind": "train stand shows", "is_smallest_behind": "train stand shows thing"},
    "texts": {"show_train": "train", "show_stand": "stand", "show_row": "row", "show_pushes": "pushes",
              "show_shown": "shown", "show_shows": "shows", "show_answer": "told", "read_train": "text",
              "read_stand": "text", "read_row": "text", "read_pushes": "text", "read_shown": "text",
              "read_shows": "text", "read_answer": "text"},
    "joins": {"joined": "one other", "together": "one here other there", "parted": "one other stand",
              "fed": "train stand signs", "least_wheel": "train stand", "one_way": "train", "spare": "train stand",
              "pairs_together": "pairs others"},
}

# Each function that is handed a train with a stand first, and what else is handed to it.
AT_A_STAND = [
    (check_stand, ()), (left, ([],)), (left_often, ([], 3)), (trains_alike, ([CLICK], (0,))),
    (shows_alike, ([CLICK], (0,), None)), (least_pushes, ((), [])), (fewest_deeds, ((), [])),
    (shows_row, ((), [], None)), (shows_never, ((), [], None)), (shows_deeds, ((), [], None)), (explained, ([],)),
    (wear_groups, ([],)), (shows_groups, ([], None)), (smallest_behind, ([],)), (is_smallest_behind, ([], None)),
    (together, ([CLICK], (0,))), (fed, ([],)), (least_wheel, ()), (spare, ()),
]
OF_A_TRAIN = [(check_train, ()), (stand_count, ()), (stands_of, ()), (rows_alike, ([], [])), (row_round, ([],)),
              (wears, ()), (worn, (None,)), (show_train, ()), (joined, ([CLICK],)), (parted, ([CLICK], (0, 0))),
              (one_way, ())]


def defined_in(module):
    tree = ast.parse((PACKAGE / f"{module}.py").read_text(encoding="utf-8"))
    return [node.name for node in tree.body if isinstance(node, (ast.FunctionDef, ast.ClassDef))]


class Interface(unittest.TestCase):
    def test_each_name_is_defined_in_its_file(self):
        for module, names in INTERFACE.items():
            for name, arguments in names.items():
                function = getattr(importlib.import_module(f"clicktrain.{module}"), name)
                self.assertIn(name, defined_in(module))
                self.assertEqual(list(inspect.signature(function).parameters), arguments.split(), name)
        self.assertIn("Desk", defined_in("desk"))
        self.assertEqual(len(defined_in("errors")), 13)

    def test_importing_does_nothing_else(self):
        for module in [*INTERFACE, "desk", "errors"]:
            tree = ast.parse((PACKAGE / f"{module}.py").read_text(encoding="utf-8"))
            for node in tree.body:
                docstring = isinstance(node, ast.Expr) and isinstance(node.value, ast.Constant)
                bound = isinstance(node, (ast.ImportFrom, ast.FunctionDef, ast.ClassDef, ast.Assign))
                self.assertTrue(docstring or bound, module)


class Refusals(unittest.TestCase):
    def test_no_train_ahead_of_all_else(self):
        for thing in NO_TRAINS:
            for ask, rest in AT_A_STAND:
                for stand in ((0,), None):
                    self.assertIs(refusal(ask, thing, stand, *rest), NoTrain, (ask, thing))
                    self.assertIs(refusal(ask, thing, stand, *[None for other in rest]), NoTrain, (ask, thing))
            for ask, rest in OF_A_TRAIN:
                self.assertIs(refusal(ask, thing, *rest), NoTrain, (ask, thing))

    def test_no_stand_behind_that(self):
        for train in LONG_TRAINS[:2]:
            for wrong in no_stands(train):
                for ask, rest in AT_A_STAND:
                    self.assertIs(refusal(ask, train, wrong, *rest), NoStand, (ask, wrong))
                    self.assertIs(refusal(ask, train, wrong, *[None for other in rest]), NoStand, (ask, wrong))

    def test_only_told_classes_are_raised(self):
        things = [None, True, 0, "", "none", (), [], [()], [[]], (None,), [None], (0,), [0], ("wheel", 1, ()), HUGE]
        draw = random.Random(501)
        functions = [getattr(importlib.import_module(f"clicktrain.{module}"), name)
                     for module, names in INTERFACE.items() if module != "texts" for name in names
                     if name not in ("pushed", "pairs_together", "worn")]
        for number in range(4000):
            ask = draw.choice(functions)
            train = drawn_train(draw, longest=2, most=3)
            given = [draw.choice(things) for argument in inspect.signature(ask).parameters]
            if draw.random() < 0.7:
                given = ([train, drawn_stand(draw, train)] + given[2:])[:len(given)]
            # A refusal is one of the twelve, and nothing else is raised.
            refusal(ask, *given)


class ToldAgain(unittest.TestCase):
    """What joined and worn told, of any number of stands, handed in again."""

    def great(self):
        one = worn([("wheel", HUGE, (0, 5, 9)), CLICK, ("spring", HUGE - 1)], (0, 5))
        other = [("wheel", 10 ** 39, (1,)), ROCKER, ("spring", HUGE)]
        return joined(one, other), (8, 0, 7, 0, 0, HUGE - 1)

    def test_a_train_of_very_many_stands(self):
        train, stand = self.great()
        check_train(train)
        check_stand(train, stand)
        self.assertEqual(stand_count(train), HUGE * (HUGE - 1) * 10 ** 39 * 2 * HUGE)
        self.assertEqual(pushed(train, stand, 2, 1), push_by_words(train, stand, 2, 1))
        row = [(0, 1, 3), (2, -1, 2), (3, 1, 1), (5, 1, 4), (4, -1, 1), (3, -1, 2)]
        self.assertEqual(left(train, stand, row), row_by_words(train, stand, row))
        self.assertEqual(left_often(train, stand, row, 9), row_by_words(train, stand, row * 9))
        self.assertEqual(wears(train), [None, (0, 0), (0, 9), (3, 1)])
        self.assertEqual(worn(train, (3, 1))[3], ("wheel", 10 ** 39, ()))
        self.assertEqual(explained(train, stand, [(3, 1, 1)]), [None, (0, 0), (0, 9)])
        self.assertEqual(explained(train, stand, [(3, 1, 0)]), [(3, 1)])
        self.assertEqual(read_train(show_train(train)), train)
        self.assertEqual(read_stand(show_stand(stand)), stand)
        self.assertEqual(joined(train, train), train * 2)
        self.assertEqual(parted(train[:3], train[3:], stand), (stand[:3], stand[3:]))
        self.assertIs(one_way(train), True)
        self.assertEqual(fed(train, stand, [1, 0, -1])[1], [0, 0, 0])
        self.assertEqual(smallest_behind(train, stand, [(1, 0), (-1, 0)]), ("wheel", 1, (), []))
        self.assertEqual(trains_alike(train[:1], (8,), train[3:4], (0,))[0], "apart")
        self.assertEqual(least_wheel(train[:1], (0,)), ("wheel", HUGE, (0, 9)))
        for keys in ([], [0]):
            self.assertIs(refusal(least_pushes, train, stand, stand, keys), TooMany)
            self.assertIs(refusal(fewest_deeds, train, stand, stand, keys), TooMany)
            self.assertIs(refusal(wear_groups, train, stand, keys), TooMany)
        self.assertIs(shows_never(train, stand, (0,) * 6, [], ("never", [stand])), True)
        self.assertIs(shows_row(train, stand, stand, [], ("row", [], [(stand, 0)])), True)
        self.assertIs(shows_deeds(train, stand, stand, [1], ("row", [], [(stand, 0)])), False)

    def test_joined_full_trains(self):
        one, other = [("wheel", 2000, (0, 1000))], [("spring", 1000), ROCKER]
        whole = joined(one, other)
        self.assertEqual(stand_count(whole), 4000000)
        self.assertEqual(rows_alike(whole, [(0, 1, 1000)], [(1, 1, 1)]), ("apart", (0, 0, 0)))
        self.assertEqual(rows_alike(whole, [(0, 1, 2000)], [(1, 1, 2)]), ("alike",))
        # Only a spring that is thrown over does not come back.
        self.assertEqual(rows_alike(whole, [(0, 1, 1), (0, -1, 1)], []), ("apart", (999, 999, 0)))
        self.assertEqual(left_often(whole, (0, 999, 0), [(0, 1, 1000)], 10 ** 39), ((0, 999, 1), 1))

    def test_papers_put_together(self):
        one, its = [("wheel", 40, (0,))], [("wheel", 40, (3,)), ("spring", 1), CLICK]
        told = trains_alike(one + [CLICK], (0, 0), its, (3, 0, 0))
        other = trains_alike([("spring", 39)], (1,), [("spring", 39), CLICK], (1, 0))
        self.assertEqual([told[0], other[0]], ["alike", "alike"])
        paper = pairs_together(told[1], other[1])
        asked = [joined(one + [CLICK], [("spring", 39)]), (0, 0, 1),
                 joined(its, [("spring", 39), CLICK]), (3, 0, 0, 1, 0)]
        self.assertIs(shows_alike(*asked, paper), True)
        self.assertEqual(len(paper[1]), 40 * 39)
        self.assertIs(shows_alike(*asked, ("alike", paper[1][1:])), False)

    def test_told_things_handed_in_again_stay(self):
        draw = random.Random(502)
        for number in range(40):
            one, other = drawn_train(draw, longest=2, stands=12), drawn_train(draw, longest=2, stands=12)
            whole = joined(one, other)
            stand = together(one, drawn_stand(draw, one), other, drawn_stand(draw, other))
            for wear in wears(whole):
                again = asked_twice(worn, whole, wear)
                asked_twice(trains_alike, whole, stand, again, stand)
                asked_twice(spare, again, stand)
            self.assertEqual(stands_of(whole), stands_by_words(whole))


if __name__ == "__main__":
    unittest.main()
