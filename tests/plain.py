"""What the tests hold the program against: the document's words, push by push."""

import random

from clicktrain.errors import TrainError

HUGE = 10 ** 40 - 1

CLICK = ("click",)
ROCKER = ("rocker",)

PARTS = [
    ("wheel", 1, ()),
    ("wheel", 1, (0,)),
    ("wheel", 2, (1,)),
    ("wheel", 3, ()),
    ("wheel", 3, (0, 2)),
    ("wheel", 4, (0, 1, 2, 3)),
    ("wheel", 5, (1, 3)),
    CLICK,
    ROCKER,
    ("spring", 1),
    ("spring", 2),
    ("spring", 4),
]

LONG_TRAINS = [
    [("wheel", 5, (0, 1, 3)), CLICK, ("wheel", 3, (0, 2)), ("spring", 2)],
    [("wheel", 3, (0, 1, 2)), ("wheel", 4, (0, 2, 3)), ("wheel", 5, (1, 4))],
    [("spring", 2), ROCKER, ("wheel", 2, (0, 1))],
    [("wheel", 4, (0, 1, 3)), ROCKER, ("spring", 3), CLICK, ("wheel", 2, (0,))],
    [CLICK, CLICK, ROCKER, ROCKER, ("spring", 1), ("spring", 3), ("wheel", 1, (0,)), ("wheel", 6, (0, 5))],
    [("wheel", 2, (0, 1)), ("wheel", 2, (0, 1)), ("wheel", 2, (0,)), ("wheel", 2, (1,)),
     ("wheel", 2, (0, 1)), ("wheel", 2, (0,)), ("wheel", 2, (0, 1)), ("wheel", 2, (1,))],
]

# Of 2,000 stands each, the most that are gone through.
FULL_TRAINS = [
    [("wheel", 2000, (0, 7, 1999))],
    [("spring", 2000)],
    [("wheel", 10, (0, 9)), ("wheel", 10, (3,)), ("spring", 10), ROCKER],
    [ROCKER, ("spring", 5), CLICK, ("wheel", 5, (0, 4)), ROCKER, ("spring", 5), ("wheel", 4, (1,)), CLICK],
]

TRAINS = (
    [[part] for part in PARTS]
    + [[first, second] for first in PARTS for second in PARTS]
    + LONG_TRAINS
)

NO_NUMBERS = [True, False, None, "", "1", (), (1,), [], [1]]

NO_TRAINS = [
    None, True, False, 0, 1, "", "wheel", (), (CLICK,), [],
    [None], [True], [1], ["click"], [[]], [()], [[CLICK]], [(CLICK,)], [CLICK, None], [None, CLICK],
    [["click"]], [["wheel", 3, (0,)]], [["spring", 2]], [("click",), ["rocker"]],
    [("Click",)], [("",)], [("cog",)], [("cog", 3, ())], [(None,)], [(1,)], [(["click"],)], [(("click",),)],
    [("click", 1)], [("click", None)], [("click", ())], [("rocker", 0)], [("rocker", "rocker")],
    [("wheel",)], [("wheel", 3)], [("wheel", 3, (), ())], [("wheel", 3, (0,), 1)], [("wheel", (0,), 3)],
    [("wheel", 0, ())], [("wheel", -1, ())], [("wheel", -HUGE, ())],
    [("wheel", 3, [])], [("wheel", 3, [0])], [("wheel", 3, None)], [("wheel", 3, 0)], [("wheel", 3, "0")],
    [("wheel", 3, "")], [("wheel", 3, True)], [("wheel", 3, (-1,))], [("wheel", 3, (3,))], [("wheel", 1, (1,))],
    [("wheel", 3, (0, 0))], [("wheel", 3, (1, 0))], [("wheel", 3, (0, 2, 1))], [("wheel", 3, (0, 1, 1))],
    [("wheel", 3, (0, 1, 2, 3))], [("wheel", 3, (-1, 0))], [("wheel", HUGE, (HUGE,))],
    [("spring",)], [("spring", 0)], [("spring", -1)], [("spring", 2, ())], [("spring", 2, 2)],
    [("wheel", 3, (0,)), ("spring", 0)], [("wheel", 0, ()), ("spring", 2)],
]
NO_TRAINS += [[("wheel", wrong, ())] for wrong in NO_NUMBERS]
NO_TRAINS += [[("wheel", 3, (wrong,))] for wrong in NO_NUMBERS]
NO_TRAINS += [[("wheel", 3, (0, wrong))] for wrong in NO_NUMBERS]
NO_TRAINS += [[("spring", wrong)] for wrong in NO_NUMBERS]


def same_kind(one, other):
    """Equal, with truths and numbers held apart all the way down."""
    if type(one) is not type(other):
        return False
    if isinstance(one, (list, tuple)):
        return len(one) == len(other) and all(same_kind(a, b) for a, b in zip(one, other))
    return one == other


def copied(thing):
    """The same once more, with new lists all the way down."""
    if isinstance(thing, list):
        return [copied(inner) for inner in thing]
    if isinstance(thing, tuple):
        return tuple(copied(inner) for inner in thing)
    return thing


def refusal(ask, *handed):
    """The class that is raised, or None; what is handed in must stay as it was."""
    before = copied(handed)
    raised = None
    try:
        ask(*handed)
    except TrainError as error:
        raised = type(error)
    assert same_kind(handed, before), "what was handed in was changed"
    return raised


def size_of(part):
    return {"wheel": part[1:2], "click": (1,), "rocker": (2,), "spring": part[1:2]}[part[0]][0]


def stands_by_words(train):
    """All stands, counted up from the last place on."""
    stands = []
    stand = [0] * len(train)
    while True:
        stands.append(tuple(stand))
        at = len(train) - 1
        while at >= 0 and stand[at] == size_of(train[at]) - 1:
            stand[at] = 0
            at -= 1
        if at < 0:
            return stands
        stand[at] += 1


def wheel_by_words(teeth, marks, place, way):
    if way == 1:
        place = 0 if place == teeth - 1 else place + 1
        return place, (1 if place in marks else None)
    gives = -1 if place in marks else None
    return (teeth - 1 if place == 0 else place - 1), gives


def part_by_words(part, place, way):
    """The new place and what is given, None for nothing: point 6, word by word."""
    if part[0] == "wheel":
        return wheel_by_words(part[1], part[2], place, way)
    if part[0] == "click":
        return place, {1: 1, -1: None}[way]
    if part[0] == "rocker":
        return {(1, 0): (1, 1), (-1, 1): (0, None)}.get((way, place), (place, None))
    if way == 1 and place == part[1] - 1:
        return 0, 1
    if way == 1:
        return place + 1, None
    return (place if place == 0 else place - 1), None


def push_by_words(train, stand, i, way):
    if i == len(train):
        return stand, way
    place, gives = part_by_words(train[i], stand[i], way)
    stand = stand[:i] + (place,) + stand[i + 1:]
    if gives is None:
        return stand, 0
    return push_by_words(train, stand, i + 1, gives)


def row_by_words(train, stand, row):
    total = 0
    for i, way, times in row:
        for push in range(times):
            stand, shown = push_by_words(train, stand, i, way)
            total += shown
    return stand, total


def rows_for(train, seed, many, longest, most):
    """Rows drawn from a fixed seed, so that each run tests the same."""
    draw = random.Random(seed)
    rows = []
    for number in range(many):
        deeds = draw.randint(0, longest)
        rows.append([(draw.randrange(len(train)), draw.choice((1, -1)), draw.randint(0, most))
                     for deed in range(deeds)])
    return rows


def deed_by_rounds(train, stand, deed):
    """As row_by_words of one deed of very many times: push by push until a stand comes again, then by rounds."""
    i, way, times = deed
    stands, sums = [stand], [0]
    while len(stands) <= times:
        stand, shown = push_by_words(train, stand, i, way)
        if stand in stands:
            start = stands.index(stand)
            rounds, rest = divmod(times - start, len(stands) - start)
            each = sums[-1] + shown - sums[start]
            return stands[start + rest], sums[start + rest] + rounds * each
        stands.append(stand)
        sums.append(sums[-1] + shown)
    return stands[times], sums[times]


def row_by_rounds(train, stand, row):
    total = 0
    for deed in row:
        stand, shown = deed_by_rounds(train, stand, deed)
        total += shown
    return stand, total


def drawn_part(draw, most=5):
    kind = draw.choice(("wheel", "wheel", "wheel", "click", "rocker", "spring"))
    if kind == "wheel":
        teeth = draw.randint(1, most)
        return kind, teeth, tuple(mark for mark in range(teeth) if draw.random() < 0.5)
    return (kind, draw.randint(1, most)) if kind == "spring" else (kind,)


def drawn_train(draw, longest=4, most=5, stands=80):
    """A train of few stands, drawn from a Random with a fixed seed."""
    while True:
        train = [drawn_part(draw, most) for part in range(draw.randint(1, longest))]
        count = 1
        for part in train:
            count *= size_of(part)
        if count <= stands:
            return train


def drawn_stand(draw, train):
    return tuple(draw.randrange(size_of(part)) for part in train)


def no_stands(train):
    """Things that are no stand of the train."""
    last = stands_by_words(train)[-1]
    found = [None, True, 0, "", "0", (), [], list(last), [last], (last,), last[:-1], last + (0,), (0,) + last,
             last + (None,), str(last)]
    for at, place in enumerate(last):
        for wrong in NO_NUMBERS + [-1, place + 1, -HUGE, HUGE]:
            found.append(last[:at] + (wrong,) + last[at + 1:])
    return found


def no_rows(parts):
    """Things that are no row of a train of so many parts."""
    found = [None, True, False, 0, "", "0+1", (), ((0, 1, 1),), [None], [0], [True], ["0+1"], [()], [[]],
             [[0, 1, 1]], [(0, 1)], [(0,)], [(0, 1, 1, 1)], [((0, 1, 1),)], [[(0, 1, 1)]],
             [(-1, 1, 1)], [(parts, 1, 1)], [(HUGE, 1, 1)], [(0, 0, 1)], [(0, 2, 1)], [(0, -2, 1)], [(0, HUGE, 1)],
             [(0, 1, -1)], [(0, -1, -HUGE)], [(parts, 1, 0)], [(0, 0, 0)]]
    for wrong in NO_NUMBERS:
        found += [[(wrong, 1, 1)], [(0, wrong, 1)], [(0, 1, wrong)]]
    good = (parts - 1, -1, 3)
    found += [[good] * 15 + [(0, 1, True)], [(0, True, 1)] + [good] * 15, [good, [0, 1, 1], good]]
    return found


def no_keys(parts):
    """Things that are no keys of a train of so many parts."""
    return [None, True, False, 0, 1, "", "0", (), (0,), [None], ["0"], [()], [[]], [[0]], [(0,)], [(0, 1)],
            [-1], [parts], [HUGE], [-HUGE], [0, 0], [parts - 1, parts - 1], [True], [False], [0, True], [0, None],
            [None, 0], [0, parts], [0, -1], list(range(parts)) + [0], list(range(parts + 1))]


# Things that are no paper of any kind, whatever is asked.
NO_PAPERS = [
    None, True, False, 0, 1, -1, HUGE, "", "alike", "apart", "row", "never", "yes", (), [], ((),), [()], ([],), [[]],
    (None,), (None, None), (None, None, None), (True, True), (0, 0, 0), ("alike",), ("apart",), ("row",), ("never",),
    ("alike", None), ("alike", True), ("alike", 0), ("alike", ""), ("alike", ()), ("alike", "alike"),
    ("apart", None), ("apart", True), ("apart", 1), ("apart", ""), ("apart", ()), ("apart", (1,)), ("apart", "+"),
    ("apart", []), ("apart", [], []), ("apart", [0]), ("apart", [None]), ("apart", [True]), ("apart", ["+"]),
    ("apart", [2]), ("apart", [-2]), ("apart", [[1]]), ("apart", [(1,)]), ("apart", [1], None), ["apart", [1]],
    ("alike", []), ("alike", [], []), ("alike", [None]), ("alike", [()]), ("alike", [((), ())]), ("alike", [[]]),
    ["alike", []], ("Alike", []), ("alike ", []), (("alike",), []), (["alike"], []), ([], "alike"), (1, []),
    ("row", []), ("row", [], []), ("row", [], None), ("row", None, []), ("row", (), ()), ("row", [], [None]),
    ("row", [None], []), ("row", [()], [()]), ("row", [], [], []), ["row", [], []], ("Row", [], []),
    (["row"], [], []), (("row",), [], []), ("row", "", ""), ("row", True, True), ("row", 0, 0),
    ("never", None), ("never", True), ("never", ()), ("never", []), ("never", [None]), ("never", [()]),
    ("never", [[]]), ("never", [], []), ["never", []], ("Never", []), (["never"], []), ("never", ""),
    ([], [], []), [[], [], []], ([], [], [], []), ([], []), ((), (), ()), ([[]], [], []), ([[None]], None, []),
    ([[None]], [], None), ([None], [], []), ([(None,)], [], []), ([[True]], [], []), ([[0]], [], []),
    ("", "", ""), ([[]], [[]], [[]]), ([[None]], [[]], [[]]), ([["none"]], [], []), ([[()]], [], []),
    [[[[[[[[[[]]]]]]]]]], ((((((((((),),),),),),),),),), ("alike", [[[[[[[[[]]]]]]]]]),
    ("never", [((((((((0,),),),),),),),)]), ([[((((((((0,),),),),),),),)]], [], []),
    "wheel", "none", ("wheel",), ("none",), ("wheel", 1), ("wheel", 1, ()), ("wheel", (), []), ("wheel", 1, (), [], []),
    ("wheel", 0, (), []), ("wheel", -1, (), []), ("wheel", None, (), []), ("wheel", True, (), []),
    ("wheel", "1", (), []),
    ("wheel", 1, [], []), ("wheel", 1, (), ()), ("wheel", 1, None, []), ("wheel", 1, (), None), ("wheel", 1, (1,), []),
    ("wheel", 1, (False,), []), ("wheel", 1, ([],), []), ("wheel", 1, (), [None]), ("wheel", 2, (), []),
    ("wheel", 2, (), [None]), ("wheel", 2, (), [()]), ("wheel", 2, (), [[]]), ("wheel", 2, (), [(0, 0)]),
    ("wheel", HUGE, (), []), ("wheel", HUGE, (HUGE - 1,), []), ["wheel", 1, (), []], ("Wheel", 1, (), []),
    (["wheel"], 1, (), []), ("none", 0), ("none", None, None), ("none", True, True), ("none", False, False),
    ("none", False, True), ("none", -1, -1), ("none", HUGE, HUGE), ("none", 0, HUGE), ("none", -HUGE, 0),
    ("none", "0", "0"),
    ("none", (0,), (0,)), ("none", [0], [0]), ("none", (0, 0)), ("none", 0, 0, 0), ["none", 0, 0], ("None", 0, 0),
    (None, 0, 0), (["none"], 0, 0),
]


def bent_number(number):
    found = [number + 1, number - 1, -number - 2, HUGE, None, str(number), (number,), [number], True, False, ""]
    return [other for other in found if not same_kind(other, number)]


def bent_here(thing):
    """The thing bent at its top: something left out, put in, exchanged, or told otherwise."""
    if isinstance(thing, bool) or thing is None:
        return [0, 1, True, False, (), "none", [None], (0, 0)]
    if isinstance(thing, int):
        return bent_number(thing)
    if isinstance(thing, str):
        return ["", thing.upper(), thing + " ", None, "alike", "apart", "row", "never", "wheel", "none",
                (thing,), [thing], True, 0]
    other_kind = tuple(thing) if isinstance(thing, list) else list(thing)
    found = [other_kind, None, "", True, thing[:0], thing[::-1], thing + thing, thing + type(thing)([None])]
    for at in range(len(thing)):
        found += [thing[:at] + thing[at + 1:], thing[:at + 1] + thing[at:], thing[at:] + thing[:at]]
        for wrong in (None, (), [], 0, True):
            found.append(thing[:at] + type(thing)([wrong]) + thing[at:])
        for later in range(at + 1, min(at + 4, len(thing))):
            found.append(thing[:at] + thing[later:later + 1] + thing[at + 1:later] + thing[at:at + 1]
                         + thing[later + 1:])
    return found


def all_bent(thing):
    """The thing bent at each place, also within, one place at a time."""
    found = bent_here(thing)
    if isinstance(thing, (list, tuple)):
        for at, inner in enumerate(thing):
            for other in all_bent(inner):
                found.append(thing[:at] + type(thing)([other]) + thing[at + 1:])
    return found


def one_bent(draw, thing):
    """The thing bent at one drawn place."""
    if isinstance(thing, (list, tuple)) and thing and draw.random() < 0.8:
        at = draw.randrange(len(thing))
        return thing[:at] + type(thing)([one_bent(draw, thing[at])]) + thing[at + 1:]
    return draw.choice(bent_here(thing))


def some_bent(thing, seed, many):
    """All ways to bend the thing where they are few, else so many drawn ones."""
    if sized(thing) <= 25:
        return all_bent(thing)
    draw = random.Random(seed)
    return [one_bent(draw, thing) for number in range(many)]


def sized(thing):
    """How many tuples, lists, numbers and texts stand in it, itself too."""
    if isinstance(thing, (list, tuple)):
        return 1 + sum(sized(inner) for inner in thing)
    return 1


def is_number(thing):
    """A whole number, and no truth."""
    return type(thing) is int


def is_way(thing):
    return is_number(thing) and thing in (1, -1)


def has_form(thing, kind, *forms):
    """Of this kind, with one item for each form, and each of its form."""
    return type(thing) is kind and len(thing) == len(forms) and all(form(item) for form, item in zip(forms, thing))


def list_of(form):
    return lambda thing: type(thing) is list and all(form(item) for item in thing)


def stand_form(train):
    def is_stand(thing):
        return (type(thing) is tuple and len(thing) == len(train)
                and all(is_number(place) and 0 <= place < size_of(part) for part, place in zip(train, thing)))
    return is_stand


def push_form(keys):
    return lambda thing: has_form(thing, tuple, lambda i: is_number(i) and i in keys, is_way)


def lists_in(thing):
    """All lists that stand in it, itself too."""
    found = [thing] if isinstance(thing, list) else []
    if isinstance(thing, (list, tuple)):
        for inner in thing:
            found += lists_in(inner)
    return found


def asked_twice(ask, *handed):
    """What is told, where all of point 2 holds of it: what is handed in stays, and the lists are the asker's own."""
    mine = copied(handed)
    told = ask(*mine)
    kept = copied(told)
    assert same_kind(mine, handed), "what was handed in was changed"
    own = lists_in(told)
    places = {id(one) for one in own}
    assert len(places) == len(own), "a list stands in two places"
    assert not places & {id(one) for one in lists_in(mine)}, "a list that was handed in is told"
    again = ask(*mine)
    assert not places & {id(one) for one in lists_in(again)}, "a list is told twice"
    spoil(own)
    assert same_kind(again, kept), "an answer was changed by another one"
    assert same_kind(ask(*mine), kept), "asked again, something else is told"
    spoil(lists_in(mine))
    assert same_kind(again, kept), "an answer hangs on what was handed in"
    return kept


def spoil(lists):
    for one in lists:
        one.clear()
        one.append("changed")
