"""What is written and read as text: points 25 to 27."""

from clicktrain.errors import NoText
from clicktrain.trains import check_train, is_part

FIGURES = "0123456789"
MOST_FIGURES = 40
WAY_OF_SIGN = {"+": 1, "-": -1}
SHOWN_OF_TEXT = {"=1": 1, "=-1": -1, "=0": 0}


def show_way(way):
    return "+" if way == 1 else "-"


def show_list(things, show_one):
    """The texts of all, with one blank between."""
    if not things:
        return "none"
    return " ".join([show_one(thing) for thing in things])


def show_part(part):
    if part[0] == "wheel":
        marks = ",".join([str(mark) for mark in part[2]])
        return f"w{part[1]}:{marks}"
    if part[0] == "spring":
        return f"s{part[1]}"
    return "c" if part[0] == "click" else "r"


def show_train(train):
    """The text of a train; or NoTrain."""
    check_train(train)
    return show_list(train, show_part)


def show_stand(stand):
    """The text of a stand."""
    return "/".join([str(place) for place in stand])


def show_deed(deed):
    i, way, times = deed
    return f"{i}{show_way(way)}{times}"


def show_row(row):
    """The text of a row of deeds."""
    return show_list(row, show_deed)


def show_push(push):
    i, way = push
    return f"{i}{show_way(way)}"


def show_pushes(pushes):
    """The text of pushes at parts."""
    return show_list(pushes, show_push)


def show_shown_push(push):
    i, way, shown = push
    return f"{i}{show_way(way)}={shown}"


def show_shown(shown):
    """The text of what was shown at pushes at parts."""
    return show_list(shown, show_shown_push)


def show_show(show):
    way, shown = show
    return f"{show_way(way)}={shown}"


def show_shows(shows):
    """The text of shows."""
    return show_list(shows, show_show)


def show_ways(ways):
    """Ways one behind the other, without a blank."""
    if not ways:
        return "none"
    return "".join([show_way(way) for way in ways])


def show_pair(pair):
    here, there = pair
    return f"{show_stand(here)}~{show_stand(there)}"


def show_numbered(numbered):
    stand, number = numbered
    return f"{show_stand(stand)}:{number}"


def show_moves(moves):
    """The text of pushes or of a row, whichever they are."""
    if moves and len(moves[0]) == 2:
        return show_pushes(moves)
    return show_row(moves)


def show_wheel(teeth, marks, bars):
    texts = [show_part(("wheel", teeth, marks))]
    texts.extend([f"{j}~{k}" for j, k in bars])
    return " ".join(texts)


def show_answer(told):
    """The text of an answer of points 11, 13, 15, 21 and 23."""
    word = told[0]
    if word == "alike":
        return f"alike {show_list(told[1], show_pair)}"
    if word == "apart":
        return f"apart {show_ways(told[1])}"
    if word == "row":
        return f"row {show_moves(told[1])}; {show_list(told[2], show_numbered)}"
    if word == "never":
        return f"never {show_list(told[1], show_stand)}"
    if word == "wheel":
        return f"wheel {show_wheel(told[1], told[2], told[3])}"
    return f"none {told[1]} {told[2]}"


def read_number(text):
    """A number from 0 on, by its figures alone; or NoText."""
    if len(text) == 0 or len(text) > MOST_FIGURES or (text[0] == "0" and len(text) > 1):
        raise NoText("a number has one to forty figures, and no needless 0")
    if any(sign not in FIGURES for sign in text):
        raise NoText("a number has figures alone")
    return int(text)


def read_numbers(text, between):
    """Numbers, one at least, with one sign between."""
    return [read_number(word) for word in text.split(between)]


def read_way(text):
    if text not in WAY_OF_SIGN:
        raise NoText("a way is + or -")
    return WAY_OF_SIGN[text]


def read_after_way(text):
    """What was shown, as it stands behind a way."""
    if text not in SHOWN_OF_TEXT:
        raise NoText("what was shown is =1, =-1 or =0")
    return SHOWN_OF_TEXT[text]


def read_list(text, read_one):
    """What the words tell that have one blank between."""
    if text == "none":
        return []
    return [read_one(word) for word in text.split(" ")]


def read_wheel(text):
    """A wheel's tuple, whether it is a good part or not."""
    teeth, colon, marks = text[1:].partition(":")
    if colon == "":
        raise NoText("a wheel has a colon behind its teeth")
    return "wheel", read_number(teeth), tuple(read_numbers(marks, ",")) if marks else ()


def read_part(text):
    """A part's tuple, whether it is a good one or not."""
    if text == "c":
        return ("click",)
    if text == "r":
        return ("rocker",)
    if text.startswith("w"):
        return read_wheel(text)
    if text.startswith("s"):
        return "spring", read_number(text[1:])
    raise NoText("a part is written with w, c, r or s")


def read_train(text):
    """The train that is so written; or NoText, and behind that NoTrain."""
    train = [read_part(word) for word in text.split(" ")]
    check_train(train)
    return train


def read_stand(text):
    """The places that are so written, of one part or more; or NoText."""
    return tuple(read_numbers(text, "/"))


def split_push(text):
    """The part's number and the way that a word begins with, and what stands behind them."""
    at = 0
    while at < len(text) and text[at] in FIGURES:
        at += 1
    return read_number(text[:at]), read_way(text[at:at + 1]), text[at + 1:]


def read_deed(text):
    i, way, times = split_push(text)
    return i, way, read_number(times)


def read_row(text):
    """The row that is so written; or NoText."""
    return read_list(text, read_deed)


def read_push(text):
    i, way, behind = split_push(text)
    if behind != "":
        raise NoText("a push ends with its way")
    return i, way


def read_pushes(text):
    """The pushes at parts that are so written; or NoText."""
    return read_list(text, read_push)


def read_shown_push(text):
    i, way, behind = split_push(text)
    return i, way, read_after_way(behind)


def read_shown(text):
    """What was shown at pushes at parts, as it is so written; or NoText."""
    return read_list(text, read_shown_push)


def read_show(text):
    return read_way(text[:1]), read_after_way(text[1:])


def read_shows(text):
    """The shows that are so written; or NoText."""
    return read_list(text, read_show)


def read_ways(text):
    """Ways one behind the other, one at least, or none; or NoText."""
    if text == "none":
        return []
    if text == "":
        raise NoText("ways are one at least, or none")
    return [read_way(sign) for sign in text]


def read_pair(text):
    here, between, there = text.partition("~")
    return read_stand(here), read_stand(there)


def read_numbered(text):
    stand, between, number = text.partition(":")
    return read_stand(stand), read_number(number)


def read_moves(text):
    """Pushes, or a row, by what the last word ends with."""
    if text.endswith("+") or text.endswith("-"):
        return read_pushes(text)
    return read_row(text)


def read_row_answer(text):
    moves, between, numbers = text.partition("; ")
    return "row", read_moves(moves), read_list(numbers, read_numbered)


def read_two(text, between):
    """Two numbers with one sign between."""
    numbers = read_numbers(text, between)
    if len(numbers) != 2:
        raise NoText("there are two numbers")
    return numbers[0], numbers[1]


def read_wheel_answer(text):
    words = text.split(" ")
    part = read_part(words[0])
    if part[0] != "wheel" or not is_part(part):
        raise NoText("the wheel of an answer is a good part")
    return "wheel", part[1], part[2], [read_two(word, "~") for word in words[1:]]


def read_answer(text):
    """The answer that is so written; or NoText."""
    word, blank, rest = text.partition(" ")
    if word == "alike":
        return "alike", read_list(rest, read_pair)
    if word == "apart":
        return "apart", read_ways(rest)
    if word == "row":
        return read_row_answer(rest)
    if word == "never":
        return "never", read_list(rest, read_stand)
    if word == "wheel":
        return read_wheel_answer(rest)
    if word == "none":
        j, k = read_two(rest, " ")
        return "none", j, k
    raise NoText("an answer begins with alike, apart, row, never, wheel or none")
