"""A desk that keeps trains by names and answers lines: points 34 to 37."""

from clicktrain.alike import row_round, rows_alike
from clicktrain.errors import NoBack, NoLine, NoName, NoWear
from clicktrain.joins import fed, joined, least_wheel, one_way, spare, together
from clicktrain.makes import smallest, smallest_behind, teeth_of
from clicktrain.rows import left, left_often
from clicktrain.shows import shows_alike, trains_alike
from clicktrain.texts import (read_answer, read_number, read_numbers, read_row, read_shown, read_shows, read_stand,
                              read_train, read_two, read_ways, show_answer, show_stand, show_train)
from clicktrain.trains import check_stand, stand_count
from clicktrain.ways import fewest_deeds, least_pushes, shows_deeds, shows_never, shows_row
from clicktrain.worn import explained, wear_groups, wears, worn

# What stands behind the first word of each line, as the document calls it; A and B are told as NAME.
LINES = {
    "train": ("NEW", "TRAIN"),
    "put": ("NAME", "STAND"),
    "drop": ("NAME",),
    "do": ("NAME", "ROW"),
    "often": ("NAME", "N", "ROW"),
    "feed": ("NAME", "WAYS"),
    "join": ("NEW", "NAME", "NAME"),
    "ring": ("NEW", "NAME"),
    "worn": ("NEW", "NAME", "WEAR"),
    "back": (),
    "names": (),
    "is": ("NAME",),
    "at": ("NAME",),
    "stands": ("NAME",),
    "oneway": ("NAME",),
    "spare": ("NAME",),
    "round": ("NAME", "ROW"),
    "same": ("NAME", "ROWS"),
    "alike": ("NAME", "NAME"),
    "holds": ("NAME", "NAME", "ANSWER"),
    "way": ("NAME", "STAND", "KEYS"),
    "deeds": ("NAME", "STAND", "KEYS"),
    "reach": ("NAME", "STAND", "KEYS", "ANSWER"),
    "wheel": ("SHOWS",),
    "behind": ("NAME", "SHOWS"),
    "teeth": ("N", "SHOWS"),
    "wears": ("NAME",),
    "explain": ("NAME", "SHOWN"),
    "groups": ("NAME", "KEYS"),
}

RESTS = ("TRAIN", "ROW", "ROWS", "SHOWS", "SHOWN", "ANSWER")
LETTERS = "abcdefghijklmnopqrstuvwxyz"
MOST_LETTERS = 8


def words_of(line):
    """The words of a line, a rest as the last one; or NoLine."""
    words = line.split(" ")
    if words[0] not in LINES:
        raise NoLine("no line begins with this word")
    kinds = LINES[words[0]]
    many = len(kinds)
    if kinds and kinds[-1] in RESTS:
        rest = " ".join(words[many:])
        if rest == "":
            raise NoLine("the rest of the line is missing")
        return words[:many] + [rest]
    if len(words) != many + 1:
        raise NoLine("the line has fewer or more words")
    return words


def is_name(word):
    return 1 <= len(word) <= MOST_LETTERS and all(sign in LETTERS for sign in word)


def read_keys(text):
    if text == "none":
        return []
    return read_numbers(text, ",")


def read_wear(text):
    if text == "none":
        return None
    return read_two(text, ":")


def read_rows(text):
    one, between, other = text.partition("; ")
    return read_row(one), read_row(other)


def read_as(kind, text):
    """What a word or rest of this kind tells; or NoText, NoTrain."""
    if kind == "TRAIN":
        return read_train(text)
    if kind == "STAND":
        return read_stand(text)
    if kind == "ROW":
        return read_row(text)
    if kind == "ROWS":
        return read_rows(text)
    if kind == "SHOWS":
        return read_shows(text)
    if kind == "SHOWN":
        return read_shown(text)
    if kind == "ANSWER":
        return read_answer(text)
    if kind == "WAYS":
        return read_ways(text)
    if kind == "KEYS":
        return read_keys(text)
    if kind == "WEAR":
        return read_wear(text)
    return read_number(text)


def spaced(texts):
    return " ".join(texts) if texts else "none"


def show_numbers(numbers):
    return spaced([str(number) for number in numbers])


def yes_or_no(truth):
    return "yes" if truth else "no"


def show_wear(wear):
    if wear is None:
        return "none"
    i, mark = wear
    return f"{i}:{mark}"


def show_seen(shown):
    return "0" if shown == 0 else "+" if shown == 1 else "-"


def show_smallest(told):
    """The wheel of an answer as a train's text, or none."""
    if told[0] == "none":
        return "none"
    return show_train([("wheel", told[1], told[2])])


# Each of the next tells what the line's first name keeps from then on, None for nothing, and the answer.
def keep_train(train):
    return (train, (0,) * len(train)), "ok"


def keep_put(kept, there):
    check_stand(kept[0], there)
    return (kept[0], there), "ok"


def keep_drop(kept):
    return None, "ok"


def keep_do(kept, row):
    train, stand = kept
    after, total = left(train, stand, row)
    return (train, after), str(total)


def keep_often(kept, times, row):
    train, stand = kept
    after, total = left_often(train, stand, row, times)
    return (train, after), str(total)


def keep_feed(kept, ways):
    train, stand = kept
    after, shown = fed(train, stand, ways)
    return (train, after), "".join([show_seen(seen) for seen in shown]) if shown else "none"


def keep_join(one, other):
    train = joined(one[0], other[0])
    return (train, together(one[0], one[1], other[0], other[1])), "ok"


def keep_ring(kept):
    return ([least_wheel(kept[0], kept[1])], (0,)), "ok"


def keep_worn(kept, wear):
    train, stand = kept
    if wear not in wears(train):
        raise NoWear("the train has no such mark")
    return (worn(train, wear), stand), "ok"


def ask_is(kept):
    return show_train(kept[0])


def ask_at(kept):
    return show_stand(kept[1])


def ask_stands(kept):
    return str(stand_count(kept[0]))


def ask_one_way(kept):
    return yes_or_no(one_way(kept[0]))


def ask_spare(kept):
    return show_numbers(spare(kept[0], kept[1]))


def ask_round(kept, row):
    ahead, turn = row_round(kept[0], row)
    return f"{ahead} {turn}"


def ask_same(kept, rows):
    told = rows_alike(kept[0], rows[0], rows[1])
    if told[0] == "alike":
        return "alike"
    return f"apart {show_stand(told[1])}"


def ask_alike(one, other):
    return show_answer(trains_alike(one[0], one[1], other[0], other[1]))


def ask_holds(one, other, told):
    return yes_or_no(shows_alike(one[0], one[1], other[0], other[1], told))


def ask_way(kept, goal, keys):
    return show_answer(least_pushes(kept[0], kept[1], goal, keys))


def ask_deeds(kept, goal, keys):
    return show_answer(fewest_deeds(kept[0], kept[1], goal, keys))


def ask_reach(kept, goal, keys, told):
    train, stand = kept
    if shows_row(train, stand, goal, keys, told) or shows_deeds(train, stand, goal, keys, told):
        return "yes"
    return yes_or_no(shows_never(train, stand, goal, keys, told))


def ask_wheel(shows):
    return show_smallest(smallest(shows))


def ask_behind(kept, shows):
    return show_smallest(smallest_behind(kept[0], kept[1], shows))


def ask_teeth(most, shows):
    return show_numbers(teeth_of(shows, most))


def ask_wears(kept):
    return spaced([show_wear(wear) for wear in wears(kept[0])])


def ask_explain(kept, shown):
    told = explained(kept[0], kept[1], shown)
    if not told:
        return "never"
    return spaced([show_wear(wear) for wear in told])


def ask_groups(kept, keys):
    groups = wear_groups(kept[0], kept[1], keys)[0]
    return spaced([",".join([show_wear(wear) for wear in group]) for group in groups])


KEEPS = {
    "train": keep_train, "put": keep_put, "drop": keep_drop, "do": keep_do, "often": keep_often, "feed": keep_feed,
    "join": keep_join, "ring": keep_ring, "worn": keep_worn,
}

ASKS = {
    "is": ask_is, "at": ask_at, "stands": ask_stands, "oneway": ask_one_way, "spare": ask_spare, "round": ask_round,
    "same": ask_same, "alike": ask_alike, "holds": ask_holds, "way": ask_way, "deeds": ask_deeds,
    "reach": ask_reach, "wheel": ask_wheel, "behind": ask_behind, "teeth": ask_teeth, "wears": ask_wears,
    "explain": ask_explain, "groups": ask_groups,
}


class Desk:
    """Trains at stands, by names, and what they were ahead of each line that kept something."""

    def __init__(self):
        self.kept = {}
        self.past = []

    def say(self, line):
        """The answer to a line; or the refusal that is due first."""
        words = words_of(line)
        told = self.told_by(words)
        if words[0] == "back":
            return self.take_back()
        if words[0] == "names":
            return spaced(sorted(self.kept))
        if words[0] in KEEPS:
            keep = KEEPS[words[0]]
            now, answer = keep(*told)
            self.past.append((words[1], self.kept.get(words[1])))
            self.put_by(words[1], now)
            return answer
        ask = ASKS[words[0]]
        return ask(*told)

    def told_by(self, words):
        """What the words behind the first one tell, but for a new name; or NoName, NoText, NoTrain."""
        kinds = LINES[words[0]]
        for kind, word in zip(kinds, words[1:]):
            if (kind == "NEW" and not is_name(word)) or (kind == "NAME" and word not in self.kept):
                raise NoName("no name, or no train by this name")
        told = []
        for kind, word in zip(kinds, words[1:]):
            if kind == "NAME":
                told.append(self.kept[word])
            elif kind != "NEW":
                told.append(read_as(kind, word))
        return told

    def put_by(self, name, now):
        if now is None:
            del self.kept[name]
        else:
            self.kept[name] = now

    def take_back(self):
        """All as it was ahead of the last line that kept something; or NoBack."""
        if not self.past:
            raise NoBack("there is nothing to take back")
        name, before = self.past.pop()
        self.put_by(name, before)
        return "ok"
