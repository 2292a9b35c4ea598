"""Points 2, 3, 5 and 34 to 37: clicktrain/desk.py."""

import inspect
import unittest

from clicktrain import desk as module
from clicktrain.desk import Desk
from clicktrain.errors import (NoBack, NoCount, NoLine, NoName, NoRow, NoStand, NoText, NoTrain, NoWear, NoWheel,
                               TooMany)
from clicktrain.joins import least_wheel
from clicktrain.texts import read_train, show_stand, show_train
from tests.plain import HUGE
from tests.plain_desk import ASKING, FORMS, NAMED, Drawer, Plain, in_bounds, outcome
from tests.test_texts import NO_TEXTS, NO_TRAIN_TEXTS, TEXTS


class Interface(unittest.TestCase):
    def test_names_and_arguments(self):
        self.assertEqual(Desk.__module__, "clicktrain.desk")
        self.assertIn("say", vars(Desk))
        self.assertEqual(list(inspect.signature(Desk).parameters), [])
        self.assertEqual(list(inspect.signature(Desk.say).parameters), ["self", "line"])
        self.assertIs(module.Desk, Desk)


class Drawn(unittest.TestCase):
    def same_kept(self, desk, plain):
        """All that the desk keeps, asked of it."""
        names = sorted(plain.kept())
        self.assertEqual(desk.say("names"), " ".join(names) or "none")
        for name in names:
            train, stand = plain.kept()[name]
            self.assertEqual(desk.say(f"is {name}"), show_train(train))
            self.assertEqual(desk.say(f"at {name}"), show_stand(stand))

    def test_drawn_lines_against_a_second_desk(self):
        answered, refused = {}, set()
        for seed in range(60):
            desk, plain, drawer = Desk(), Plain(), Drawer(seed)
            for number in range(80):
                line = drawer.line(plain)
                right = outcome(plain, line)
                told = outcome(desk, line)
                self.assertEqual(told, right, line)
                if isinstance(right, str):
                    answered.setdefault(line.split(" ")[0], set()).add(right)
                else:
                    refused.add(right)
                self.same_kept(desk, plain)
                # Asked once more, a line that changes nothing kept tells the same.
                if line.split(" ")[0] in [form.split()[0] for form in ASKING]:
                    self.assertEqual(outcome(desk, line), right, line)
                if not in_bounds(plain):
                    self.assertEqual((outcome(desk, "back"), outcome(plain, "back")), ("ok", "ok"))
            while len(plain.past) > 1:
                self.assertEqual((desk.say("back"), plain.say("back")), ("ok", "ok"))
                self.same_kept(desk, plain)
            self.assertIs(outcome(desk, "back"), NoBack)
        self.assertEqual(sorted(answered), sorted(form.split()[0] for form in FORMS))
        for word in ("oneway", "holds", "reach"):
            self.assertEqual(answered[word], {"yes", "no"})
        self.assertLessEqual({NoBack, NoCount, NoLine, NoName, NoRow, NoStand, NoText, NoWear, NoWheel}, refused)


class Session(unittest.TestCase):
    def talk(self, *talk):
        desk = Desk()
        for line, right in talk:
            self.assertEqual(outcome(desk, line), right, line)
        return desk

    def test_trains_put_and_dropped(self):
        self.talk(("names", "none"), ("train a w12:0,3 c s5", "ok"), ("names", "a"), ("is a", "w12:0,3 c s5"),
                  ("at a", "0/0/0"), ("put a 11/0/4", "ok"), ("at a", "11/0/4"), ("is a", "w12:0,3 c s5"),
                  ("train b r", "ok"), ("names", "a b"), ("train a c", "ok"), ("at a", "0"), ("is a", "c"),
                  ("drop a", "ok"), ("names", "b"), ("at a", NoName), ("drop a", NoName), ("drop b", "ok"),
                  ("names", "none"), ("train abcdefgh c", "ok"), ("train z c", "ok"), ("train aa c", "ok"),
                  ("train ab c", "ok"), ("train none r", "ok"), ("names", "aa ab abcdefgh none z"), ("at none", "0"))

    def test_rows_and_ways(self):
        self.talk(("train a w3:0", "ok"), ("do a 0+3", "1"), ("at a", "0"), ("do a 0-1", "-1"), ("at a", "2"),
                  ("do a none", "0"), ("do a 0+4 0-7", "-1"), ("at a", "2"), (f"do a 0+{HUGE}", str(HUGE // 3)),
                  ("at a", "2"), ("often a 5 0+1", "2"), ("at a", "1"), ("often a 0 0+1", "0"), ("at a", "1"),
                  (f"often a {HUGE} 0-3", str(-HUGE)), ("often a 3 none", "0"), ("feed a ++-", "0+-"), ("at a", "2"),
                  ("feed a none", "none"), ("feed a ----", "00-0"), ("at a", "1"), ("train b c", "ok"),
                  (f"often b {HUGE} 0+{HUGE}", str(HUGE * HUGE)), ("feed b +-+-", "+0+0"))

    def test_join_ring_and_worn(self):
        self.talk(("train a w3:0", "ok"), ("train b r s4", "ok"), ("put a 2", "ok"), ("put b 1/3", "ok"),
                  ("join c a b", "ok"), ("is c", "w3:0 r s4"), ("at c", "2/1/3"), ("join a a b", "ok"),
                  ("is a", "w3:0 r s4"), ("at a", "2/1/3"), ("join b a b", "ok"), ("is b", "w3:0 r s4 r s4"),
                  ("at b", "2/1/3/1/3"), ("is a", "w3:0 r s4"), ("join a a a", "ok"), ("is a", "w3:0 r s4 w3:0 r s4"),
                  ("train w w4:0,2 w3:0,1,2 w2:1", "ok"), ("put w 1/2/0", "ok"), ("ring x w", "ok"), ("is x", "w4:1"),
                  ("at x", "0"),
                  ("alike x w", "alike 0~1/0/0 0~1/1/0 0~1/2/0 1~2/0/1 1~2/1/1 1~2/2/1 2~3/0/1 2~3/1/1 2~3/2/1 "
                                "3~0/0/0 3~0/1/0 3~0/2/0"),
                  ("ring w w", "ok"), ("is w", "w4:1"), ("worn y w 0:1", "ok"), ("is y", "w4:"), ("is w", "w4:1"),
                  ("feed w ++", "+0"), ("worn w w 0:1", "ok"), ("is w", "w4:"), ("at w", "2"),
                  ("worn w w none", "ok"), ("ring w w", "ok"), ("is w", "w1:"), ("worn z w 0:0", NoWear),
                  ("worn z c 1:0", NoWear), ("worn z c 0:1", NoWear), ("worn z c 9:0", NoWear),
                  ("worn z c none", "ok"), ("at z", "2/1/3"), ("ring z c", NoWheel),
                  ("is z", "w3:0 r s4"))

    def test_asking(self):
        self.talk(("train a w3:0 s2", "ok"), ("stands a", "6"), ("oneway a", "yes"), ("spare a", "none"),
                  ("wears a", "none 0:0"), ("train b w2:0,1", "ok"), ("oneway b", "no"), ("wears b", "none 0:0 0:1"),
                  ("groups b 0", "none 0:0 0:1"), ("groups b none", "none,0:0,0:1"), ("groups a 1", "none,0:0"),
                  ("explain b 0+=1", "none 0:0"), ("explain b 0+=0", "0:1"), ("explain b 0+=-1", "never"),
                  ("explain b none", "none 0:0 0:1"), ("explain b 0+=0 0+=0", "never"), ("train c c w1:0 c", "ok"),
                  ("spare c", "0 1 2"), ("round a 0+1", "0 6"), ("round a none", "0 1"), ("round a 1-1", "1 1"),
                  ("same a 0+3; 1+1", "alike"), ("same a 0+1; 1+1", "apart 0/0"), ("same a none; 1-1", "apart 0/1"),
                  ("same a none; none", "alike"), ("alike b c", "apart -"), ("alike c c", "alike 0/0/0~0/0/0"),
                  ("holds b c apart -", "yes"), ("holds b c apart +", "no"), ("holds c c alike 0/0/0~0/0/0", "yes"),
                  ("holds c c alike none", "no"), ("holds c c never none", "no"), ("holds c c wheel w1:", "no"),
                  ("holds b b none 0 1", "no"), ("way b 1 0", "row 0+; 0:0 1:1"), ("way b 0 0", "row none; 0:0 1:1"),
                  ("way b 1 none", "never 0"), ("deeds b 1 none", "never 0"),
                  ("deeds b 0 0", "row none; 0:0 1:1"))

    def test_way_and_reach(self):
        desk = self.talk(("train a s5", "ok"), ("way a 3 0", "row 0+ 0+ 0+; 0:0 1:1 2:2 3:3 4:4"),
                         ("deeds a 3 0", "row 0+3; 0:0 1:1 2:1 3:1 4:1"),
                         ("reach a 3 0 row 0+ 0+ 0+; 0:0 1:1 2:2 3:3 4:4", "yes"),
                         ("reach a 3 0 row 0+ 0+ 0+; 4:4 3:3 2:2 1:1 0:0", "yes"),
                         ("reach a 3 0 row 0+3; 0:0 1:1 2:1 3:1 4:1", "yes"),
                         ("reach a 3 0 row 0+8; 0:0 1:1 2:1 3:1 4:1", "yes"),
                         ("reach a 3 0 row 0+4; 0:0 1:1 2:1 3:1 4:1", "no"), ("reach a 3 0 never 0 1 2", "no"),
                         ("reach a 3 none never 0", "yes"), ("reach a 3 none never 2 0 1", "yes"),
                         ("reach a 0 none row none; 0:0", "yes"), ("reach a 0 0 row none; 0:0", "no"),
                         ("reach a 3 none alike 0~0", "no"), ("reach a 3 0 wheel w1:", "no"),
                         ("reach a 3 0 none 0 0", "no"), ("reach a 5 0 alike none", NoStand),
                         ("reach a 3 1 apart +", NoRow),
                         ("reach a 3 0,0 none 0 0", NoRow))
        desk.say("put a 4")
        self.assertEqual(desk.say("reach a 3 0 row 0+ 0+ 0+; 0:0 1:1 2:2 3:3 4:4"), "no")
        self.assertEqual(desk.say("way a 3 0").split("; ")[1], "0:1 1:2 2:2 3:1 4:0")

    def test_wheel_behind_and_teeth(self):
        self.talk(("wheel +=1 +=0 +=1", "w2:1"), ("wheel none", "w1:"), ("wheel +=1 -=0", "none"),
                  ("wheel +=-1", "none"), ("wheel +=1", "w1:0"), ("wheel -=0 -=0 -=-1", "w3:1"),
                  ("teeth 5 +=1 +=0", "2 3 4 5"), ("teeth 1 +=1 +=0", "none"), ("teeth 3 none", "1 2 3"),
                  ("teeth 200 +=1 -=0", "none"), ("teeth 0 none", NoCount), ("teeth 201 none", NoCount),
                  (f"teeth {HUGE} none", NoCount), ("train a s2", "ok"), ("behind a +=0 +=1 +=0 +=0", "w2:1"),
                  ("behind a +=1", "none"), ("put a 1", "ok"), ("behind a +=1", "w1:0"), ("behind a none", "w1:"),
                  ("behind a -=0", "w1:"))

    def test_back_behind_each_kind_of_line(self):
        start = [("train a w3:0,1", "ok"), ("put a 2", "ok"), ("train b s2", "ok"), ("put b 1", "ok")]
        for line in ["train a c", "train c c", "put a 0", "put a 2", "drop a", "do a 0+5", "do a none",
                     "often a 3 0+1", "often a 0 0+1", "feed a ++", "feed a none", "join c a b", "join a b a",
                     "join b a b", "ring c a", "ring a a", "worn c a 0:1", "worn a a 0:1",
                     "worn a a none"]:
            desk = self.talk(*start)
            self.assertIsInstance(outcome(desk, line), str, line)
            self.assertEqual(desk.say("back"), "ok")
            for ask, right in [("names", "a b"), ("is a", "w3:0,1"), ("at a", "2"), ("is b", "s2"), ("at b", "1")]:
                self.assertEqual(desk.say(ask), right, line)
            # What was taken back is forgotten: the next is the one ahead of it.
            self.assertEqual(desk.say("back"), "ok")
            self.assertEqual((desk.say("at b"), desk.say("back")), ("0", "ok"))
            self.assertEqual((desk.say("names"), desk.say("at a"), desk.say("back")), ("a", "2", "ok"))
            self.assertEqual((desk.say("at a"), desk.say("back"), desk.say("names")), ("0", "ok", "none"))
            self.assertIs(outcome(desk, "back"), NoBack)
            self.assertEqual(desk.say("names"), "none")

    def test_back_passes_over_what_asks_and_what_is_refused(self):
        self.talk(("back", NoBack), ("names", "none"), ("wheel +=1", "w1:0"), ("back", NoBack), ("train a", NoLine),
                  ("train A c", NoName), ("train a x", NoText), ("train a s0", NoTrain), ("back", NoBack),
                  ("train a s3", "ok"), ("do a 0+1", "0"), ("at a", "1"), ("names", "a"), ("put a 3", NoStand),
                  ("do a 1+1", NoRow), ("alike a a", "alike 0~0 1~1 2~2"), ("back", "ok"), ("at a", "0"),
                  ("do a 0+2", "0"), ("back", "ok"), ("at a", "0"), ("back", "ok"), ("names", "none"),
                  ("back", NoBack), ("train b c", "ok"), ("names", "b"), ("back", "ok"),
                  ("back", NoBack))

    def test_behind_back_an_answer_is_that_of_what_was_kept(self):
        desk = self.talk(("train a w4:0,2 s2", "ok"), ("train b w2:0 s2", "ok"))
        asks = ["alike a b", "way a 1/1 0", "deeds a 1/1 0,1", "spare a", "groups a 0", "wears a",
                "behind a +=0 +=0 +=0 +=1", "explain a 0+=0 0+=0 0+=0 0+=1", "stands a", "oneway a", "round a 0+1",
                "same a 0+4; 0+8"]
        first = [desk.say(ask) for ask in asks]
        for line in ["do a 0+3", "worn a a 0:2", "train a r", "join a a b"]:
            desk.say(line)
        self.assertNotEqual([outcome(desk, ask) for ask in asks], first)
        for number in range(4):
            desk.say("back")
        self.assertEqual([desk.say(ask) for ask in asks], first)

    def test_two_desks_keep_apart(self):
        one, other = Desk(), Desk()
        one.say("train a c")
        self.assertEqual((one.say("names"), other.say("names")), ("a", "none"))
        self.assertIs(outcome(other, "back"), NoBack)


class Bounds(unittest.TestCase):
    def test_any_number_of_stands(self):
        desk = Desk()
        self.assertEqual(desk.say(f"train a w{HUGE}:0,7 s{HUGE}"), "ok")
        self.assertEqual(desk.say("is a"), f"w{HUGE}:0,7 s{HUGE}")
        self.assertEqual(desk.say(f"put a 5/{HUGE - 1}"), "ok")
        self.assertEqual(desk.say("at a"), f"5/{HUGE - 1}")
        self.assertEqual(desk.say("feed a ++-+"), "0+00")
        self.assertEqual(desk.say("at a"), "7/1")
        self.assertEqual(desk.say(f"do a 0+{HUGE} 1-{HUGE}"), "0")
        self.assertEqual(desk.say("at a"), "7/0")
        self.assertEqual(desk.say(f"often a 300 0+{HUGE - 1}"), "0")
        self.assertEqual(desk.say("at a"), f"{HUGE - 293}/598")
        self.assertEqual(desk.say("join b a a"), "ok")
        self.assertEqual(desk.say("is b"), f"w{HUGE}:0,7 s{HUGE} w{HUGE}:0,7 s{HUGE}")
        self.assertEqual(desk.say("worn b b 2:7"), "ok")
        self.assertEqual(desk.say("is b"), f"w{HUGE}:0,7 s{HUGE} w{HUGE}:0 s{HUGE}")
        self.assertEqual(desk.say("stands b"), str(HUGE ** 4))
        self.assertEqual(desk.say("oneway b"), "yes")
        self.assertEqual(desk.say("wears b"), "none 0:0 0:7 2:0")
        self.assertEqual(desk.say("explain b 2+=0"), "none 0:0 0:7 2:0")
        self.assertEqual(desk.say("drop b"), "ok")
        for line in ["way a 0/0 0", "deeds a 0/0 none", "groups a 0"]:
            self.assertIs(outcome(desk, line), TooMany, line)

    def test_many_stands_are_refused_last(self):
        desk = Desk()
        desk.say("train a s501")
        desk.say("train b w61:")
        desk.say("train c w12:0,1,2,3,4,5,6,7,8,9,10,11")
        for line, right in [("way a 0 0", TooMany), ("deeds a 0 0", TooMany), ("way a 501 0", NoStand),
                            ("way a 0 1", NoRow), ("way a 0 0,", NoText), ("way x 0 0,", NoName), ("way a 0", NoLine),
                            ("groups b 0", TooMany), ("groups b 1", NoRow), ("groups c none", TooMany),
                            ("reach a 0 0 row none; 0:0", "no"), ("reach a 0 none row none; 0:0", "yes")]:
            self.assertEqual(outcome(desk, line), right, line)

    def test_a_ring_of_many_marks(self):
        desk = Desk()
        desk.say("train a w2000:" + ",".join(str(mark) for mark in range(0, 80, 2)))
        desk.say("train b w50:" + ",".join(str(mark) for mark in range(40)) + " w40:1,2,3,5,8,13,21,34")
        self.assertEqual(desk.say("ring r b"), "ok")
        self.assertEqual(desk.say("is r"), show_train([least_wheel(read_train(desk.say("is b")), (0, 0))]))
        self.assertEqual(desk.say("is r").count(","), 7)
        desk.say("train c w2:0,1 w1000:" + ",".join(str(mark) for mark in range(40)) + " w1:0")
        self.assertEqual(desk.say("ring r c"), "ok")
        self.assertEqual(desk.say("alike r c").split(" ")[0], "alike")
        numbers = [str(number) for number in range(50)]
        desk.say(f"train d w40:{','.join(numbers[:39])} w50:{','.join(numbers[1:41])} c")
        self.assertIs(outcome(desk, "ring r d"), NoWheel)
        desk.say(f"train d w40:{','.join(numbers[:39])} w50:{','.join(numbers[1:41])} w1:0")
        self.assertEqual(desk.say("ring r d"), "ok")
        self.assertEqual(desk.say("stands r"), "2000")
        self.assertEqual(desk.say("is r").count(","), 39 * 40 - 1)
        answer = desk.say("alike r d")
        # What was told may be handed in again, whatever its size.
        self.assertGreater(len(answer), 21000)
        self.assertEqual(desk.say("holds r d " + answer), "yes")
        self.assertEqual(desk.say("holds d r " + answer), "no")
        self.assertEqual(desk.say("train e " + desk.say("is r")), "ok")
        self.assertEqual((desk.say("is e"), desk.say("alike e d")), (desk.say("is r"), answer))
        self.assertEqual(desk.say("join f r e"), "ok")

    def test_four_thousand_lines(self):
        desk = Desk()
        desk.say("train a w7:0")
        for number in range(1, 2000):
            self.assertEqual(desk.say("do a 0+1"), "1" if number % 7 == 0 else "0")
        for number in range(1998, -1, -1):
            self.assertEqual(desk.say("back"), "ok")
            if number % 100 == 0:
                self.assertEqual(desk.say("at a"), str(number % 7))
        self.assertEqual((desk.say("back"), outcome(desk, "back")), ("ok", NoBack))


class Refusals(unittest.TestCase):
    def ready(self):
        desk, plain = Desk(), Plain()
        for line in ["train a w3:0 s2", "put a 2/1", "train b c", "train w w4:1,2", "put w 3", "do w 0+2"]:
            self.assertEqual(desk.say(line), plain.say(line))
        return desk, plain

    def hold(self, line, right=None):
        """A line that is refused changes nothing kept, and nothing that back takes back."""
        desk, plain = self.ready()
        told = outcome(desk, line)
        self.assertEqual(told, outcome(plain, line), line)
        if right is not None:
            self.assertIs(told, right, line)
        if not isinstance(told, str):
            for ask in ["names", "is a", "at a", "is b", "at b", "is w", "at w", "back", "at w", "back", "at w"]:
                self.assertEqual(desk.say(ask), plain.say(ask), line)
        return told

    def test_no_line(self):
        for line in ["", " ", "  ", "x", "train", "train ", "train a", "train a ", "train  ", "Train a c",
                     "TRAIN a c", "trains a", " train a c", "\ttrain a c", "train\ta c", "\nnames", "names\n",
                     "names ", " names", "names a", "Names", "back ", "back a", " back", "put a", "put a 0/0 ",
                     "put a 0/0 0", "put  a 0/0", "drop", "drop a ", "drop a b", "do a", "do a ", "do", "often a 1",
                     "often a 1 ", "often a", "feed a", "feed a + ", "feed a + -", "join c a", "join c a b ",
                     "join c a b d", "ring c", "ring c w ", "worn c w", "worn c w none ", "worn c w 0 1", "is",
                     "is a ", "is a b", "at", "at a 0/0", "stands", "stands a a", "oneway", "one way a", "spare",
                     "spare a a", "round a", "round a ", "same a", "same a ", "alike a", "alike a b c", "holds a b",
                     "holds a b ", "holds a", "way a 0/0", "way a 0/0 0 0", "way a 0/0 0 ", "deeds a 0/0",
                     "deeds a 0/0 0 1", "reach a 0/0 0", "reach a 0/0 0 ", "reach a 0/0", "wheel", "wheel ",
                     "behind a", "behind a ", "teeth 3", "teeth 3 ", "wears", "wears a ", "explain a", "explain a ",
                     "groups a", "groups a 0 ", "groups a 0 1", "say", "none", "ok", "+", "0", "a", "is\na", "at\ta",
                     "names\t"]:
            self.hold(line, NoLine)

    def test_a_word_may_have_no_sign(self):
        for line, right in [("is ", NoName), ("at ", NoName), ("drop ", NoName), ("put a ", NoText),
                            ("put  0", NoName), ("feed a ", NoText), ("feed  +", NoName), ("train  c", NoName),
                            ("join  a b", NoName), ("join c  b", NoName), ("join c a ", NoName), ("ring  w", NoName),
                            ("ring c ", NoName), ("worn c w ", NoText), ("worn  w none", NoName),
                            ("alike a ", NoName), ("alike  ", NoName), ("way a  0", NoText), ("way a 0/0 ", NoText),
                            ("groups a ", NoText), ("reach a   row none; 0:0", NoText), ("teeth  +=1", NoText),
                            ("often a  0+1", NoText), ("wears ", NoName), ("put  a 0/0", NoLine), ("do  0+1", NoName),
                            ("wheel  ", NoText), ("wheel  +=1", NoText), ("do a  ", NoText), ("train a  ", NoText),
                            ("train a  c", NoText), ("train a c ", NoText), ("round a none ", NoText),
                            ("explain a  none", NoText), ("same a none; none ", NoText), ("teeth 3  none", NoText)]:
            self.hold(line, right)

    def test_no_name_ahead_of_no_text(self):
        for wrong in ["A", "aB", "a1", "a-b", "abcdefghi", "1", "+", "a\n", "\ta", "a_b", "\u00e4", ""]:
            for form in FORMS:
                word, *kinds = form.split()
                for at, kind in enumerate(kinds):
                    if kind == "NEW" or kind in NAMED:
                        given = [wrong if number == at else "a" if other in NAMED + ("NEW",) else "?"
                                 for number, other in enumerate(kinds)]
                        self.hold(" ".join([word] + given), NoName)
        for form in FORMS:
            word, *kinds = form.split()
            for at, kind in enumerate(kinds):
                if kind in NAMED:
                    given = ["c" if number == at else "a" if other in NAMED + ("NEW",) else "?"
                             for number, other in enumerate(kinds)]
                    self.hold(" ".join([word] + given), NoName)

    def test_no_text_ahead_of_what_the_functions_refuse(self):
        good = {"NEW": "c", "NAME": "a", "A": "a", "B": "b", "TRAIN": "c", "STAND": "9/9/9", "ROW": "9+1", "N": "0",
                "WAYS": "+", "WEAR": "9:9", "ROWS": "9+1; 9+1", "ANSWER": "none 0 0", "KEYS": "9", "SHOWS": "none",
                "SHOWN": "9+=1"}
        own = {"TRAIN": ["none", "w3", "c  c", "w0: x", "s0 none"], "STAND": ["none", "0/", "00", "0/-1", "0\n"],
               "ROW": ["0", "0+", "0+1;", "none none", "0+01"], "N": ["none", "-1", "+1", "01", "1" * 41, "x", "1.0"],
               "WAYS": ["0", "+0", "none+", "1", "+,-", "+\n", "None"],
               "WEAR": ["0", "0:", ":0", "0:0:0", "0/0", "00:0", "0:01", "None"],
               "KEYS": ["0,", ",0", "0,,1", "00", "0;1", "-1", "None", "none,0", "0:1"],
               "ROWS": ["none", "none;none", "none; ", "none; none; none", "none;  none", "0+1 0+1", "0+1, 0+1",
                        "; none", "0+; none"],
               "ANSWER": ["none", "yes", "alike", "alike 0", "wheel w0:", "row 0+", "apart 1"],
               "SHOWS": ["+=2", "0+=1", "+", "none none"], "SHOWN": ["+=1", "0+=2", "0+", "none none"]}
        for form in FORMS:
            word, *kinds = form.split()
            for at, kind in enumerate(kinds):
                for wrong in own.get(kind, []):
                    given = [wrong if number == at else good[other] for number, other in enumerate(kinds)]
                    self.hold(" ".join([word] + given), NoText)

    def test_texts_of_every_kind(self):
        lines = ["train c {}", "put a {}", "do a {}", "often a 2 {}", "round a {}", "same a {}; 0+1",
                 "same a none; {}", "holds a b {}", "reach a 0/0 0 {}", "wheel {}", "behind a {}", "teeth 5 {}",
                 "explain a {}", "feed a {}", "way a {} 0", "deeds a 0/0 {}", "groups a {}", "worn c a {}",
                 "often a {} none", "teeth {} none"]
        every = [text for told in TEXTS.values() for text in told[:6]] + NO_TEXTS[::3] + NO_TRAIN_TEXTS[::2]
        found = {}
        for line in lines:
            found[line] = [self.hold(line.format(text)) for text in every]
            self.assertIn(NoText, found[line])
            self.assertIn(str, [type(told) for told in found[line]], line)

    def test_no_train(self):
        for text in NO_TRAIN_TEXTS:
            self.hold(f"train c {text}", NoTrain)
            self.hold(f"train a {text}", NoTrain)
            self.hold(f"train C {text}", NoName)
            self.hold(f"train c {text} x", NoText)

    def test_as_the_functions_refuse(self):
        for line, right in [("put a 3/0", NoStand), ("put a 0", NoStand), ("put a 0/0/0", NoStand),
                            (f"put a 0/{HUGE}", NoStand), ("do a 2+1", NoRow), ("do a 0+1 2-1", NoRow),
                            ("often a 2 2+1", NoRow), ("often a 0 2+1", NoRow), ("round a 2+1", NoRow),
                            ("same a none; 2+1", NoRow), ("same a 2+1; none", NoRow), ("ring c a", NoWheel),
                            ("ring c b", NoWheel), ("ring a a", NoWheel), ("worn c w 0:0", NoWear),
                            ("worn c w 0:3", NoWear), ("worn c w 1:1", NoWear), ("worn c b 0:0", NoWear),
                            ("worn w w 0:4", NoWear), ("worn c a 1:0", NoWear), ("way a 3/0 0", NoStand),
                            ("way a 3/0 9", NoStand), ("way a 0/0 2", NoRow), ("way a 0/0 0,0", NoRow),
                            ("deeds a 0/2 0", NoStand), ("deeds a 0/0 0,2", NoRow),
                            ("reach a 0/2 9 never none", NoStand), ("reach a 0/0 2 never none", NoRow),
                            ("reach a 3/3 0 alike none", NoStand), ("groups a 2", NoRow), ("groups a 0,1,0", NoRow),
                            ("explain a 2+=1", NoRow), ("explain a 0+=1 5-=0", NoRow), ("teeth 0 +=1", NoCount),
                            ("teeth 201 +=1", NoCount), (f"teeth {HUGE} none", NoCount)]:
            self.hold(line, right)

    def test_names_that_stand_already(self):
        for line in ["train a c", "join a a b", "join b a b", "join a a a", "ring w w", "worn w w 0:1", "ring a w",
                     "worn b w none"]:
            desk, plain = self.ready()
            self.assertEqual(desk.say(line), plain.say(line))
            for ask in ["names", "is a", "at a", "is b", "at b", "is w", "at w", "back", "is a", "is b", "is w",
                        "at w"]:
                self.assertEqual(desk.say(ask), plain.say(ask), line)


if __name__ == "__main__":
    unittest.main()
