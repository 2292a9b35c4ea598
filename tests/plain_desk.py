"""A second desk by the words of points 34 to 37, and lines drawn for it, that tests hold the desk against."""

import random
import re

from clicktrain.alike import row_round, rows_alike
from clicktrain.errors import NoBack, NoLine, NoName, NoText, NoWear, TrainError
from clicktrain.joins import fed, joined, least_wheel, one_way, spare, together
from clicktrain.makes import smallest, smallest_behind, teeth_of
from clicktrain.rows import left, left_often
from clicktrain.shows import shows_alike, trains_alike
from clicktrain.texts import (read_answer, read_row, read_shown, read_shows, read_stand, read_train, show_answer,
                              show_row, show_shown, show_shows, show_stand, show_train)
from clicktrain.trains import check_stand, stand_count
from clicktrain.ways import fewest_deeds, least_pushes, shows_deeds, shows_never, shows_row
from clicktrain.worn import explained, wear_groups, wears, worn
from tests.plain import HUGE, drawn_stand, drawn_train
from tests.test_texts import NUMBER

# The lines as points 35 and 36 write them.
KEEPING = ["train NEW TRAIN", "put NAME STAND", "drop NAME", "do NAME ROW", "often NAME N ROW", "feed NAME WAYS",
           "join NEW A B", "ring NEW A", "worn NEW A WEAR"]
ASKING = ["names", "is NAME", "at NAME", "stands NAME", "oneway NAME", "spare NAME", "round NAME ROW", "same NAME ROWS",
          "alike A B", "holds A B ANSWER", "way NAME STAND KEYS", "deeds NAME STAND KEYS",
          "reach NAME STAND KEYS ANSWER", "wheel SHOWS", "behind NAME SHOWS", "teeth N SHOWS", "wears NAME",
          "explain NAME SHOWN", "groups NAME KEYS"]
FORMS = KEEPING + ["back"] + ASKING
RESTS = ("TRAIN", "ROW", "ROWS", "SHOWS", "SHOWN", "ANSWER")
NAMED = ("NAME", "A", "B")


def read_by_pattern(pattern, make):
    def read(text):
        if re.fullmatch(pattern, text) is None:
            raise NoText("so says the pattern")
        return make(text)
    return read


def wear_of(text):
    return None if text == "none" else tuple(int(number) for number in text.split(":"))


READERS = {
    "TRAIN": read_train, "STAND": read_stand, "ROW": read_row, "SHOWS": read_shows, "SHOWN": read_shown,
    "ANSWER": read_answer, "N": read_by_pattern(NUMBER, int),
    "ROWS": read_by_pattern("[^;]+; [^;]+", lambda text: [read_row(row) for row in text.split("; ")]),
    "WAYS": read_by_pattern("none|[+-]+", lambda text: [] if text == "none" else [int(sign + "1") for sign in text]),
    "KEYS": read_by_pattern(rf"none|{NUMBER}(?:,{NUMBER})*",
                            lambda text: [] if text == "none" else [int(key) for key in text.split(",")]),
    "WEAR": read_by_pattern(rf"none|{NUMBER}:{NUMBER}", wear_of),
}


def listed(numbers):
    return " ".join(str(number) for number in numbers) or "none"


def wear_text(wear):
    return "none" if wear is None else "%d:%d" % wear


def wheel_text(told):
    return "none" if told[0] == "none" else show_train([("wheel", told[1], told[2])])


def yes(truth):
    return {True: "yes", False: "no"}[truth]


class Plain:
    """A second desk, by the words: all that was ever kept stands in a list, whole."""

    def __init__(self):
        self.past = [{}]

    def kept(self):
        return self.past[-1]

    def say(self, line):
        word, told = self.understood(line)
        if word == "back":
            if len(self.past) == 1:
                raise NoBack("nothing")
            self.past.pop()
            return "ok"
        if word == "names":
            return " ".join(sorted(self.kept())) or "none"
        name, told = told[0][0] if told else None, [given for text, kind, given in told if kind != "NEW"]
        if word not in [form.split()[0] for form in KEEPING]:
            return getattr(self, word)(*told)
        now, answer = getattr(self, word)(*told)
        after = dict(self.kept())
        after.pop(name, None)
        if now is not None:
            after[name] = now
        self.past.append(after)
        return answer

    def understood(self, line):
        """The first word, and of each other one its text, its kind and what it tells; or the refusal that is due."""
        for form in FORMS:
            word, *kinds = form.split()
            pattern = word + "".join(" (.+)" if kind in RESTS else " ([^ ]*)" for kind in kinds)
            found = re.fullmatch(pattern, line, re.DOTALL)
            if found is not None:
                break
        else:
            raise NoLine(line)
        for kind, given in zip(kinds, found.groups()):
            if kind == "NEW" and re.fullmatch("[a-z]{1,8}", given) is None:
                raise NoName(given)
            if kind in NAMED and given not in self.kept():
                raise NoName(given)
        told = []
        for kind, given in zip(kinds, found.groups()):
            meant = None
            if kind in NAMED:
                meant = self.kept()[given]
            elif kind != "NEW":
                meant = READERS[kind](given)
            told.append((given, kind, meant))
        return word, told

    def train(self, train):
        return (train, tuple(0 for part in train)), "ok"

    def put(self, kept, stand):
        check_stand(kept[0], stand)
        return (kept[0], stand), "ok"

    def drop(self, kept):
        return None, "ok"

    def do(self, kept, row):
        stand, total = left(*kept, row)
        return (kept[0], stand), "%d" % total

    def often(self, kept, times, row):
        stand, total = left_often(*kept, row, times)
        return (kept[0], stand), "%d" % total

    def feed(self, kept, ways):
        stand, shown = fed(*kept, ways)
        return (kept[0], stand), "".join("0+-"[gives] for gives in shown) or "none"

    def join(self, one, other):
        return (joined(one[0], other[0]), together(*one, *other)), "ok"

    def ring(self, kept):
        return ([least_wheel(*kept)], (0,)), "ok"

    def worn(self, kept, wear):
        if wear not in wears(kept[0]):
            raise NoWear(wear)
        return (worn(kept[0], wear), kept[1]), "ok"

    def at(self, kept):
        return show_stand(kept[1])

    def stands(self, kept):
        return "%d" % stand_count(kept[0])

    def oneway(self, kept):
        return yes(one_way(kept[0]))

    def spare(self, kept):
        return listed(spare(*kept))

    def round(self, kept, row):
        return "%d %d" % row_round(kept[0], row)

    def same(self, kept, rows):
        told = rows_alike(kept[0], *rows)
        return " ".join([told[0]] + [show_stand(stand) for stand in told[1:]])

    def alike(self, one, other):
        return show_answer(trains_alike(*one, *other))

    def holds(self, one, other, told):
        return yes(shows_alike(*one, *other, told))

    def way(self, kept, goal, keys):
        return show_answer(least_pushes(*kept, goal, keys))

    def deeds(self, kept, goal, keys):
        return show_answer(fewest_deeds(*kept, goal, keys))

    def reach(self, kept, goal, keys, told):
        return yes(any([judge(*kept, goal, keys, told) for judge in (shows_row, shows_never, shows_deeds)]))

    def wheel(self, shows):
        return wheel_text(smallest(shows))

    def behind(self, kept, shows):
        return wheel_text(smallest_behind(*kept, shows))

    def teeth(self, most, shows):
        return listed(teeth_of(shows, most))

    def wears(self, kept):
        return " ".join(wear_text(wear) for wear in wears(kept[0]))

    def explain(self, kept, shown):
        return " ".join(wear_text(wear) for wear in explained(*kept, shown)) or "never"

    def groups(self, kept, keys):
        return " ".join(",".join(wear_text(wear) for wear in group) for group in wear_groups(*kept, keys)[0])


# A word of Python's, so it is no name in the class above.
setattr(Plain, "is", lambda self, kept: show_train(kept[0]))


def outcome(desk, line):
    """The answer, or the class that is raised."""
    try:
        return desk.say(line)
    except TrainError as error:
        return type(error)


class Drawer:
    """Lines drawn from a fixed seed for what a plain desk keeps."""

    def __init__(self, seed):
        self.draw = random.Random(seed)

    def line(self, plain):
        form = self.draw.choice(FORMS + KEEPING)
        if form == "train NEW TRAIN" or self.draw.random() < 0.04:
            form = "train NEW TRAIN"
        word, *kinds = form.split()
        names = sorted(plain.kept())
        chosen = self.draw.choice(names) if names else "a"
        kept = plain.kept().get(chosen, ([("click",)], (0,)))
        line = word
        for kind in kinds:
            given = self.given(kind, chosen, kept, names)
            chosen = self.draw.choice(names) if kind in ("A", "NEW") and names else chosen
            line += " " + given
        if self.draw.random() < 0.06:
            at = self.draw.randrange(len(line) + 1)
            more = self.draw.choice([" ", "", "x", "0", "+", "\n", "none"])
            line = line[:at] + more + line[at + self.draw.randrange(2):]
        return line

    def given(self, kind, chosen, kept, names):
        draw, (train, stand) = self.draw, kept
        if kind == "NEW":
            return draw.choice(["a", "b", "cc", "names", "none", "abcdefgh"])
        if kind in NAMED:
            return chosen
        if kind == "STAND":
            return show_stand(drawn_stand(draw, train) if draw.random() < 0.9 else stand + (0,))
        if kind == "N":
            return str(draw.choice([0, 1, 2, 3, 7, 12, 200, 201, HUGE]))
        if kind == "KEYS":
            keys = [str(i) for i in range(len(train)) if draw.random() < 0.6] + ["9"] * (draw.random() < 0.05)
            return ",".join(keys) or "none"
        if kind == "WAYS":
            return "".join(draw.choice("+-") for way in range(draw.randint(0, 8))) or "none"
        if kind == "WEAR":
            return wear_text(draw.choice(wears(train))) if draw.random() < 0.8 else "0:7"
        return self.rest(kind, train, stand)

    def row(self, train):
        parts = len(train) + (self.draw.random() < 0.05)
        return show_row([(self.draw.randrange(parts), self.draw.choice((1, -1)), self.draw.randint(0, 9))
                         for deed in range(self.draw.randint(0, 3))])

    def rest(self, kind, train, stand):
        draw = self.draw
        if kind == "TRAIN":
            return show_train(drawn_train(draw, longest=2, most=4, stands=12))
        if kind == "ROW":
            return self.row(train)
        if kind == "ROWS":
            return "; ".join([self.row(train), self.row(train)])
        shows = [(draw.choice((1, 1, -1)), draw.choice((0, 0, 1))) for push in range(draw.randint(0, 5))]
        if kind == "SHOWS":
            return show_shows(shows)
        if kind == "SHOWN":
            return show_shown([(draw.randrange(len(train)), way, shown) for way, shown in shows[:3]])
        goal = drawn_stand(draw, train)
        return show_answer(draw.choice([
            trains_alike(train, stand, train, goal), trains_alike(train, stand, train, stand),
            least_pushes(train, stand, goal, [0]), fewest_deeds(train, stand, goal, [0]), smallest(shows),
            ("never", [stand]), ("row", [], [(stand, 0)])]))


def in_bounds(plain):
    return all(len(train) <= 5 and stand_count(train) <= 60 for train, stand in plain.kept().values())
