"""Points 2, 5 and 25 to 27: clicktrain/texts.py."""

import inspect
import random
import re
import unittest

from clicktrain import texts
from clicktrain.errors import NoText, NoTrain
from clicktrain.makes import smallest, smallest_behind
from clicktrain.shows import trains_alike
from clicktrain.texts import (read_answer, read_pushes, read_row, read_shown, read_shows, read_stand, read_train,
                              show_answer, show_pushes, show_row, show_shown, show_shows, show_stand, show_train)
from clicktrain.ways import fewest_deeds, least_pushes
from tests.plain import (CLICK, FULL_TRAINS, HUGE, LONG_TRAINS, NO_TRAINS, ROCKER, TRAINS, asked_twice, drawn_stand,
                         drawn_train, refusal, same_kind)

# The forms of points 25 and 26 once more, as patterns.
NUMBER = r"(?:0|[1-9][0-9]{0,39})"
STAND = rf"{NUMBER}(?:/{NUMBER})*"
WHEEL = rf"w{NUMBER}:(?:{NUMBER}(?:,{NUMBER})*)?"
PART = rf"(?:{WHEEL}|c|r|s{NUMBER})"
PUSH = rf"{NUMBER}[+-]"
DEED = rf"{NUMBER}[+-]{NUMBER}"
SHOWN = r"=(?:1|-1|0)"


def listed(one):
    return rf"(?:none|{one}(?: {one})*)"


ROW = listed(DEED)
PUSHES = listed(PUSH)
PATTERNS = {
    read_train: rf"{PART}(?: {PART})*",
    read_stand: STAND,
    read_row: ROW,
    read_pushes: PUSHES,
    read_shown: listed(rf"{PUSH}{SHOWN}"),
    read_shows: listed(rf"[+-]{SHOWN}"),
    read_answer: "|".join([
        "alike " + listed(f"{STAND}~{STAND}"), "apart (?:none|[+-]+)",
        f"row (?:{ROW}|{PUSHES}); " + listed(f"{STAND}:{NUMBER}"),
        "never " + listed(STAND), f"wheel {WHEEL}(?: {NUMBER}~{NUMBER})*", f"none {NUMBER} {NUMBER}"]),
}
WRITERS = {read_train: show_train, read_stand: show_stand, read_row: show_row, read_pushes: show_pushes,
           read_shown: show_shown, read_shows: show_shows, read_answer: show_answer}

TEXTS = {
    read_train: ["c", "r", "s1", "s2", "w1:", "w1:0", "w12:0,3", "w12:", "c r s5 w3:0,1,2 c", "w12:0,3 c s5 r r w2:1",
                 f"w{HUGE}:0,{HUGE - 1}", f"s{HUGE}", "w3:2 w3:1 w3:0 w3: c c r r"],
    read_stand: ["0", "1", "10", "0/0", "0/1/2", "12/0/305", str(HUGE), f"{HUGE}/0/{HUGE}",
                 "/".join("0123456789" * 20)],
    read_row: ["none", "0+12", "0+12 2-3", "0+0", "0-0 0-0", f"{HUGE}-{HUGE}", "10+20 30-40 5+6"],
    read_pushes: ["none", "0+", "2-", "0+ 2-", "0+ 0+ 0+ 10-", f"{HUGE}+ {HUGE}-"],
    read_shown: ["none", "0+=1", "2-=0", "0+=1 2-=0", "0+=-1 11-=-1 0-=1", f"{HUGE}+=0"],
    read_shows: ["none", "+=1", "-=-1", "+=0", "+=1 -=-1 +=0", "+=-1 -=1 -=0"],
    read_answer: [
        "alike 0/1~3 1/0~2", "alike 0~0", "alike none", f"alike {HUGE}/0~{HUGE}", "apart +-+", "apart +", "apart -",
        "apart none", "row 0+ 1-; 0/0:0 1/0:1", "row 0+12 2-3; 0/0:0 1/0:1", "row none; 0:0", "row none; none",
        "row 0+; none", "row 0+1; none", f"row {HUGE}+{HUGE}; {HUGE}:{HUGE}", "never 0/0 1/0", "never 0", "never none",
        "wheel w3:0,2 0~1 0~2", "wheel w1:", "wheel w1:0", "wheel w2: 3~4", f"wheel w{HUGE}:{HUGE - 1} {HUGE}~0",
        "wheel w4:0,1,2,3 0~1 0~1 0~1", "none 1 4", "none 0 0", f"none {HUGE} {HUGE}",
        # The order, and whether it is right, are not looked at.
        "alike 1~1 0~0 1~1", "alike 0~0/0 0/0~0", "row 0+; 5:5 0:0 5:7", "never 3 2/1 1 3", "wheel w2:0 9~0 0~0 7~7",
        "none 4 1"],
}

# So written, but no trains.
NO_TRAIN_TEXTS = ["w0:", "w0:0", "w3:3", "w3:0,0", "w3:2,1", "w3:0,1,2,3", "s0", "c s0", "s0 c", "w0: c", "w3:1,0 w3:",
                  "c r s5 w1:1", f"w{HUGE}:{HUGE}", "w3:0,2,1", "s0 w0:", "w1:0,0"]

# Other forms, with signs and blanks more and less.
NO_TEXTS = [
    "", " ", "  ", "\n", "\t", "none ", " none", "none\n", "None", "NONE", "none none", "nones", "non", "0 ", " 0",
    "x", "~", "0x", "+", "-", "=", "/", ":", ";", ",", "++", "+=", "=1", "00", "01", "-0", "-1", "+1", "1.0", "1_0",
    "0/", "/0", "0//0", "0/ 0", "0 / 0", "0/-1", "0/01", "0,0", "0:0", "0~0", "0/\n0", "w", "w:", "w3", "w3:,",
    "w3:0,", "w3:,0", "w3:0,,1", "w3: 0", "w3 :0", "w 3:0", "W3:0", "w3:0:1", "w03:0", "w3:00", "w3:-1", "w-3:",
    "w+3:", "w3;0", "w3:0 1", "w3:0, 1", "w3:0/1", "w3:none", "w3:0.", "wc:", "cc", "cr", "c1", "c:", "C", "R", "r1",
    "r r1", "s", "s ", "s-1", "s+1", "s01", "s1:", "s1,2", "s 1", "S1", "sc", "c  c", "c c ", " c c", "c\nc", "c\tc",
    "c\n", "c,c", "c/c", "t5", "c none", "click", "wheel", "spring 2", "0+-1", "0++", "0+ -", "0 +", "0 + 1", "0+ 1",
    "0+1 ", " 0+1", "0+1  2-3", "0+1,2-3", "+1 ", "0*1", "00+1", "0+01", "0+1-", "0+-", "-0+1", "0+1;", "0+1 none",
    "none 0+1", "0+1 0+", "0+ 0+1", "0+1+2", "0=1", "0~1", "0+=", "0+=2", "0+=-0", "0+=+1", "0+=01", "0+=10", "0+= 1",
    "0+ =1", "0 +=1", "0+==1", "0+=1,", "0+=1  2-=0", "0+=-", "0+=--1", "0=+1", "+=2", "+=-0", "+=01", "+=+1", "+= 1",
    "+ =1", "+=1  -=0", "+=1 ", " +=1", "+=1,-=0", "*=1", "++=1", "+=1=1", "=1 =1", "+=1 none", "none +=1", "1=1",
    "+=\n1", "alike", "alike ", "alike  ", "alike  0~0", "alike 0~0 ", "alike 0~", "alike ~0", "alike 0",
    "alike 0~0~0", "alike 0~0,1~1", "alike 0 ~0", "alike 0~ 0", "alike none 0~0", "alike none none", "Alike 0~0",
    "alike:0~0", "alike 0~0  1~1", "alike 0/~0", "alike 00~0", "alike +", "alike\n0~0", "alike 0~0\n", "alike -1~0",
    "apart", "apart ", "apart  +", "apart + ", "apart + -", "apart +0", "apart 1", "apart 0/0", "apart +-+\n",
    "apart nones", "apart +none", "Apart +", "apart +,-", "apart *", "apart none ", "apart +-x", "row", "row ",
    "row ;", "row ; ", "row none", "row none;", "row none; ", "row none;none", "row none ; none", "row none;  none",
    "row ; none", "row  none; none", "row none; none ", "row none; none; none", "row 0+ 0:0", "row 0+;0:0",
    "row 0+ ; 0:0", "row 0+; 0", "row 0+; 0:", "row 0+; :0", "row 0+; 0:0:0", "row 0+; 0/0:-1", "row 0+; 0:0  1:1",
    "row 0+; 0:0,1:1", "row 0+ 1+2; 0:0", "row 0+2 1+; 0:0", "row 0+  1+; 0:0", "row 0+=1; 0:0", "row +; 0:0",
    "row none 0+; 0:0", "row 0+; none 0:0", "row 0+; 0:00", "row 0+; 00:0", "row 0+;\n0:0", "Row none; none",
    "row 0+1 ; 0:0", "row 0+1; 0:0;", "row 0+; 0~0", "never", "never ", "never  0", "never 0 ", "never 0  0",
    "never 0,0", "never 0/", "never 0:0", "never none 0", "never none none", "Never 0", "never 00", "never 0\n",
    "never +", "wheel", "wheel ", "wheel  w1:", "wheel w1: ", "wheel w1", "wheel c", "wheel s1", "wheel r",
    "wheel w0:", "wheel w0:0", "wheel w1:1", "wheel w3:1,0", "wheel w3:0,0", "wheel w3:3 0~1 0~2", "wheel w1: none",
    "wheel none", "wheel w3:0  0~1", "wheel w3:0 0~1 ", "wheel w3:0 0~", "wheel w3:0 ~1", "wheel w3:0 0~1~2",
    "wheel w3:0 0", "wheel w3:0 0 1", "wheel w3:0 0,1", "wheel w3:0 00~1", "wheel w3:0 -1~1", "wheel w3:0 0~1\n",
    "wheel w3:0 w3:0", "wheel 3:0", "Wheel w1:", "wheel w03:0", "wheel w3:0, 0~1", "wheel w3:0 0~1,0~2",
    "wheel w3:0; 0~1", "none", "none ", "none 1", "none 1 ", "none  1 4", "none 1  4", "none 1 4 ", "none 1 4 5",
    "none 1~4", "none 1,4", "none -1 4", "none 01 4", "none none", "none 1 none", "none 1 4\n", "none\t1 4", "yes",
    "no", "0/0:0", "ok",
]


def found_text(read, text):
    """What the reader refuses with, or None."""
    try:
        read(text)
    except (NoText, NoTrain) as error:
        return type(error)
    return None


class Interface(unittest.TestCase):
    def test_names_and_arguments(self):
        told = {"show_train": ["train"], "show_stand": ["stand"], "show_row": ["row"], "show_pushes": ["pushes"],
                "show_shown": ["shown"], "show_shows": ["shows"], "show_answer": ["told"]}
        for name in ("train", "stand", "row", "pushes", "shown", "shows", "answer"):
            told["read_" + name] = ["text"]
        for name, arguments in told.items():
            function = getattr(texts, name)
            self.assertEqual(function.__module__, "clicktrain.texts")
            self.assertEqual(list(inspect.signature(function).parameters), arguments)


class Written(unittest.TestCase):
    def test_trains(self):
        for train, text in [([("wheel", 12, (0, 3))], "w12:0,3"), ([("wheel", 12, ())], "w12:"), ([CLICK], "c"),
                            ([ROCKER], "r"), ([("spring", 7)], "s7"),
                            ([("wheel", 3, (0,)), CLICK, ROCKER, ("spring", 12)], "w3:0 c r s12"),
                            ([("wheel", HUGE, (0, HUGE - 1))], f"w{HUGE}:0,{HUGE - 1}")]:
            self.assertEqual(show_train(train), text)
            self.assertTrue(same_kind(read_train(text), train), text)

    def test_what_is_no_train(self):
        for thing in NO_TRAINS:
            self.assertIs(refusal(show_train, thing), NoTrain, thing)

    def test_stands_rows_pushes_and_shows(self):
        for show, read, thing, text in [
                (show_stand, read_stand, (0,), "0"), (show_stand, read_stand, (0, 12, 3), "0/12/3"),
                (show_stand, read_stand, (HUGE, 0), f"{HUGE}/0"),
                (show_row, read_row, [], "none"), (show_row, read_row, [(0, 1, 12), (2, -1, 3)], "0+12 2-3"),
                (show_row, read_row, [(0, 1, 0)], "0+0"), (show_row, read_row, [(7, -1, HUGE)], f"7-{HUGE}"),
                (show_pushes, read_pushes, [], "none"), (show_pushes, read_pushes, [(0, 1), (2, -1)], "0+ 2-"),
                (show_shown, read_shown, [], "none"),
                (show_shown, read_shown, [(0, 1, 1), (2, -1, 0)], "0+=1 2-=0"),
                (show_shown, read_shown, [(0, -1, -1), (1, 1, -1)], "0-=-1 1+=-1"),
                (show_shows, read_shows, [], "none"),
                (show_shows, read_shows, [(1, 1), (-1, -1), (1, 0)], "+=1 -=-1 +=0")]:
            self.assertEqual(show(thing), text)
            self.assertTrue(same_kind(read(text), thing), text)

    def test_answers(self):
        for told, text in [
                (("alike", [((0, 1), (3,)), ((1, 0), (2,))]), "alike 0/1~3 1/0~2"), (("alike", []), "alike none"),
                (("apart", [1, -1, 1]), "apart +-+"), (("apart", []), "apart none"),
                (("row", [(0, 1), (1, -1)], [((0, 0), 0), ((1, 0), 1)]), "row 0+ 1-; 0/0:0 1/0:1"),
                (("row", [(0, 1, 12), (2, -1, 3)], [((0, 0), 0), ((1, 0), 1)]), "row 0+12 2-3; 0/0:0 1/0:1"),
                (("row", [], [((4,), 0)]), "row none; 4:0"), (("row", [], []), "row none; none"),
                (("row", [(3, 1)], []), "row 3+; none"),
                (("never", [(0, 0), (1, 0)]), "never 0/0 1/0"), (("never", []), "never none"),
                (("wheel", 3, (0, 2), [(0, 1), (0, 2)]), "wheel w3:0,2 0~1 0~2"), (("wheel", 1, (), []), "wheel w1:"),
                (("wheel", 2, (), [(3, 14)]), "wheel w2: 3~14"), (("none", 1, 4), "none 1 4")]:
            self.assertEqual(show_answer(told), text)
            self.assertTrue(same_kind(read_answer(text), told), text)

    def test_more_than_forty_figures_are_written(self):
        self.assertEqual(show_stand((10 ** 41,)), "1" + "0" * 41)
        self.assertEqual(show_train([("spring", 10 ** 41)]), "s1" + "0" * 41)


class Read(unittest.TestCase):
    def test_all_trains(self):
        for train in TRAINS + LONG_TRAINS + FULL_TRAINS:
            self.assertTrue(same_kind(read_train(show_train(train)), train), train)

    def test_drawn_trains_stands_and_answers(self):
        draw = random.Random(2601)
        words = set()
        for number in range(200):
            train, other = drawn_train(draw, stands=40), drawn_train(draw, stands=40)
            stand, goal, there = drawn_stand(draw, train), drawn_stand(draw, train), drawn_stand(draw, other)
            if number % 3 == 0:
                other, there = train, stand
            keys = [i for i in range(len(train)) if draw.random() < 0.6]
            shows = [(draw.choice((1, 1, -1)), draw.choice((0, 0, 1))) for push in range(draw.randint(0, 5))]
            self.assertTrue(same_kind(read_train(show_train(train)), train))
            self.assertTrue(same_kind(read_stand(show_stand(stand)), stand))
            for told in [trains_alike(train, stand, other, there), least_pushes(train, stand, goal, keys),
                         fewest_deeds(train, stand, goal, keys), smallest(shows), smallest_behind(train, stand, shows)]:
                words.add(told[0])
                text = show_answer(told)
                self.assertIsNotNone(re.fullmatch(PATTERNS[read_answer], text), text)
                self.assertTrue(same_kind(read_answer(text), told), (told, text))
        self.assertEqual(words, {"alike", "apart", "row", "never", "wheel", "none"})

    def test_each_text_is_written_as_it_was_read(self):
        for read, told in TEXTS.items():
            for text in told:
                self.assertIsNotNone(re.fullmatch(PATTERNS[read], text), text)
                self.assertEqual(WRITERS[read](read(text)), text)

    def test_forty_figures_and_forty_one(self):
        forty, more = "9" * 40, "1" + "0" * 40
        for read, form in [(read_train, "s{}"), (read_train, "w{}:"), (read_train, "w{}:0,{}"), (read_stand, "{}"),
                           (read_stand, "0/{}/0"), (read_row, "{}+1"), (read_row, "0-{}"), (read_pushes, "{}+"),
                           (read_shown, "{}+=1"), (read_answer, "alike {}~0"), (read_answer, "alike 0/0~0/{}"),
                           (read_answer, "row {}+; 0:0"), (read_answer, "row 0+{}; 0:0"), (read_answer, "row 0+; {}:0"),
                           (read_answer, "row 0+; 0:{}"), (read_answer, "never {}"), (read_answer, "wheel w{}:"),
                           (read_answer, "wheel w2: {}~0"), (read_answer, "wheel w2: 0~{}"), (read_answer, "none {} 0"),
                           (read_answer, "none 0 {}")]:
            self.assertIs(found_text(read, form.format(more, more)), NoText, form)
            self.assertIs(found_text(read, form.format("0" + forty[1:], forty)), NoText, form)
            for number in ("0" * 40, "00", "9" * 5000, "1" * 20000):
                self.assertIs(found_text(read, form.format(number, number)), NoText, form)
            if form != "w{}:0,{}":
                text = form.format(forty)
                self.assertEqual(WRITERS[read](read(text)), text)
        self.assertEqual(read_train(f"w{forty}:0,{'8' * 40}"), [("wheel", HUGE, (0, int("8" * 40)))])
        self.assertIs(found_text(read_train, f"w{forty}:0,{forty}"), NoTrain)

    def hold(self, read, text):
        """The reader against the pattern; what is read is written as the text again."""
        found = found_text(read, text)
        good = re.fullmatch(PATTERNS[read], text) is not None
        if not good:
            self.assertIs(found, NoText, (read.__name__, text))
        elif read == read_answer and found is NoText:
            self.assertTrue(text.startswith("wheel w"), text)
            self.assertIs(found_text(read_train, text.split(" ")[1]), NoTrain, text)
        elif found is not None:
            self.assertEqual((read, found), (read_train, NoTrain), text)
        else:
            self.assertEqual(WRITERS[read](read(text)), text)
            if read == read_answer and text.startswith("wheel"):
                self.assertIsNone(found_text(read_train, text.split(" ")[1]), text)
        return found

    def test_texts_of_every_kind_to_every_reader(self):
        every = [text for told in TEXTS.values() for text in told] + NO_TRAIN_TEXTS + NO_TEXTS
        for read in PATTERNS:
            found = [self.hold(read, text) for text in every]
            self.assertIn(None, found)
            self.assertIn(NoText, found)

    def test_no_train_behind_no_text(self):
        for text in NO_TRAIN_TEXTS:
            self.assertIs(found_text(read_train, text), NoTrain, text)
            for wrong in (" ", "  c", " x", " none", " w3", "\n", " c "):
                self.assertIs(found_text(read_train, text + wrong), NoText, text + wrong)
            for wrong in (" ", "x ", "c  ", "w3 ", "\n", "none "):
                self.assertIs(found_text(read_train, wrong + text), NoText, wrong + text)
            if text.startswith("w") and " " not in text:
                self.assertIs(found_text(read_answer, f"wheel {text}"), NoText, text)
                self.assertIs(found_text(read_answer, f"wheel {text} 0~1"), NoText, text)

    def test_none_is_no_train_and_no_stand(self):
        self.assertIs(found_text(read_train, "none"), NoText)
        self.assertIs(found_text(read_stand, "none"), NoText)

    def test_texts_bent_at_each_place(self):
        signs = " \n\t0123456789+-=~/:;,.wcrsnx"
        for read, told in TEXTS.items():
            found = []
            for text in [text for text in told + (NO_TRAIN_TEXTS if read == read_train else []) if len(text) < 40]:
                for at in range(len(text) + 1):
                    found.append(self.hold(read, text[:at] + text[at + 1:]))
                    found.append(self.hold(read, text[:at] + text[at:at + 1] + text[at:]))
                    for sign in signs:
                        found.append(self.hold(read, text[:at] + sign + text[at:]))
                        found.append(self.hold(read, text[:at] + sign + text[at + 1:]))
            self.assertGreater(found.count(None), 60, read.__name__)
            self.assertGreater(found.count(NoText), 400, read.__name__)

    def test_drawn_texts(self):
        draw = random.Random(2701)
        bits = ["0", "1", "12", "00", "+", "-", "=", "=1", "=-1", "=0", " ", " ", "/", ":", "~", ",", "; ", ";",
                "w", "c", "r", "s", "none", "alike ", "apart ", "row ", "never ", "wheel ", "\n", "\t", "w3:0"]
        for number in range(20000):
            text = "".join(draw.choice(bits) for bit in range(draw.randint(0, 7)))
            self.hold(draw.choice(list(PATTERNS)), text)

    def test_long_texts(self):
        stand = "/".join(["10"] * 7000)
        self.assertEqual(read_stand(stand), (10,) * 7000)
        row = " ".join(["0+1"] * 5000)
        self.assertEqual(read_row(row), [(0, 1, 1)] * 5000)
        self.assertIs(found_text(read_row, row + " "), NoText)
        self.assertEqual(read_train(" ".join(["c"] * 10000)), [CLICK] * 10000)
        self.assertEqual(read_shows(" ".join(["-=-1"] * 4000)), [(-1, -1)] * 4000)
        self.assertEqual(read_answer("apart " + "+-" * 10000), ("apart", [1, -1] * 10000))

    def test_only_figures_are_numbers(self):
        for text in ["\u0660", "\u00b2", "\uff11", "1\u0660"]:
            for read, form in [(read_stand, "{}"), (read_train, "s{}"), (read_row, "0+{}"), (read_pushes, "{}+")]:
                self.assertIs(found_text(read, form.format(text)), NoText)


class HandedIn(unittest.TestCase):
    def test_lists_are_the_askers_own(self):
        for read, told in TEXTS.items():
            for text in told:
                thing = asked_twice(read, text)
                self.assertEqual(asked_twice(WRITERS[read], thing), text)


if __name__ == "__main__":
    unittest.main()
