"""What the tests hold the program against: the document's words, push by push."""

import random

from clicktrain.errors import TrainError

HUGE = 10 ** 40 - 1

CLICK = ("click",)
ROCKER = ("rocker",)

PARTS = [
    ("wheel", 1, ()),
    ("wheel", 1, (0,)),
    ("wheel", 2, (1,)),
    ("wheel", 3, ()),
    ("wheel", 3, (0, 2)),
    ("wheel", 4, (0, 1, 2, 3)),
    ("wheel", 5, (1, 3)),
    CLICK,
    ROCKER,
    ("spring", 1),
    ("spring", 2),
    ("spring", 4),
]

LONG_TRAINS = [
    [("wheel", 5, (0, 1, 3)), CLICK, ("wheel", 3, (0, 2)), ("spring", 2)],
    [("wheel", 3, (0, 1, 2)), ("wheel", 4, (0, 2, 3)), ("wheel", 5, (1, 4))],
    [("spring", 2), ROCKER, ("wheel", 2, (0, 1))],
    [("wheel", 4, (0, 1, 3)), ROCKER, ("spring", 3), CLICK, ("wheel", 2, (0,))],
    [CLICK, CLICK, ROCKER, ROCKER, ("spring", 1), ("spring", 3), ("wheel", 1, (0,)), ("wheel", 6, (0, 5))],
    [("wheel", 2, (0, 1)), ("wheel", 2, (0, 1)), ("wheel", 2, (0,)), ("wheel", 2, (1,)),
     ("wheel", 2, (0, 1)), ("wheel", 2, (0,)), ("wheel", 2, (0, 1)), ("wheel", 2, (1,))],
]

# Of 2,000 stands each, the most that are gone through.
FULL_TRAINS = [
    [("wheel", 2000, (0, 7, 1999))],
    [("spring", 2000)],
    [("wheel", 10, (0, 9)), ("wheel", 10, (3,)), ("spring", 10), ROCKER],
    [ROCKER, ("spring", 5), CLICK, ("wheel", 5, (0, 4)), ROCKER, ("spring", 5), ("wheel", 4, (1,)), CLICK],
]

TRAINS = (
    [[part] for part in PARTS]
    + [[first, second] for first in PARTS for second in PARTS]
    + LONG_TRAINS
)

NO_NUMBERS = [True, False, None, "", "1", (), (1,), [], [1]]

NO_TRAINS = [
    None, True, False, 0, 1, "", "wheel", (), (CLICK,), [],
    [None], [True], [1], ["click"], [[]], [()], [[CLICK]], [(CLICK,)], [CLICK, None], [None, CLICK],
    [["click"]], [["wheel", 3, (0,)]], [["spring", 2]], [("click",), ["rocker"]],
    [("Click",)], [("",)], [("cog",)], [("cog", 3, ())], [(None,)], [(1,)], [(["click"],)], [(("click",),)],
    [("click", 1)], [("click", None)], [("click", ())], [("rocker", 0)], [("rocker", "rocker")],
    [("wheel",)], [("wheel", 3)], [("wheel", 3, (), ())], [("wheel", 3, (0,), 1)], [("wheel", (0,), 3)],
    [("wheel", 0, ())], [("wheel", -1, ())], [("wheel", -HUGE, ())],
    [("wheel", 3, [])], [("wheel", 3, [0])], [("wheel", 3, None)], [("wheel", 3, 0)], [("wheel", 3, "0")],
    [("wheel", 3, "")], [("wheel", 3, True)], [("wheel", 3, (-1,))], [("wheel", 3, (3,))], [("wheel", 1, (1,))],
    [("wheel", 3, (0, 0))], [("wheel", 3, (1, 0))], [("wheel", 3, (0, 2, 1))], [("wheel", 3, (0, 1, 1))],
    [("wheel", 3, (0, 1, 2, 3))], [("wheel", 3, (-1, 0))], [("wheel", HUGE, (HUGE,))],
    [("spring",)], [("spring", 0)], [("spring", -1)], [("spring", 2, ())], [("spring", 2, 2)],
    [("wheel", 3, (0,)), ("spring", 0)], [("wheel", 0, ()), ("spring", 2)],
]
NO_TRAINS += [[("wheel", wrong, ())] for wrong in NO_NUMBERS]
NO_TRAINS += [[("wheel", 3, (wrong,))] for wrong in NO_NUMBERS]
NO_TRAINS += [[("wheel", 3, (0, wrong))] for wrong in NO_NUMBERS]
NO_TRAINS += [[("spring", wrong)] for wrong in NO_NUMBERS]


def same_kind(one, other):
    """Equal, with truths and numbers held apart all the way down."""
    if type(one) is not type(other):
        return False
    if isinstance(one, (list, tuple)):
        return len(one) == len(other) and all(same_kind(a, b) for a, b in zip(one, other))
    return one == other


def copied(thing):
    """The same once more, with new lists all the way down."""
    if isinstance(thing, list):
        return [copied(inner) for inner in thing]
    if isinstance(thing, tuple):
        return tuple(copied(inner) for inner in thing)
    return thing


def refusal(ask, *handed):
    """The class that is raised, or None; what is handed in must stay as it was."""
    before = copied(handed)
    raised = None
    try:
        ask(*handed)
    except TrainError as error:
        raised = type(error)
    assert same_kind(handed, before), "what was handed in was changed"
    return raised


def size_of(part):
    return {"wheel": part[1:2], "click": (1,), "rocker": (2,), "spring": part[1:2]}[part[0]][0]


def stands_by_words(train):
    """All stands, counted up from the last place on."""
    stands = []
    stand = [0] * len(train)
    while True:
        stands.append(tuple(stand))
        at = len(train) - 1
        while at >= 0 and stand[at] == size_of(train[at]) - 1:
            stand[at] = 0
            at -= 1
        if at < 0:
            return stands
        stand[at] += 1


def wheel_by_words(teeth, marks, place, way):
    if way == 1:
        place = 0 if place == teeth - 1 else place + 1
        return place, (1 if place in marks else None)
    gives = -1 if place in marks else None
    return (teeth - 1 if place == 0 else place - 1), gives


def part_by_words(part, place, way):
    """The new place and what is given, None for nothing: point 6, word by word."""
    if part[0] == "wheel":
        return wheel_by_words(part[1], part[2], place, way)
    if part[0] == "click":
        return place, {1: 1, -1: None}[way]
    if part[0] == "rocker":
        return {(1, 0): (1, 1), (-1, 1): (0, None)}.get((way, place), (place, None))
    if way == 1 and place == part[1] - 1:
        return 0, 1
    if way == 1:
        return place + 1, None
    return (place if place == 0 else place - 1), None


def push_by_words(train, stand, i, way):
    if i == len(train):
        return stand, way
    place, gives = part_by_words(train[i], stand[i], way)
    stand = stand[:i] + (place,) + stand[i + 1:]
    if gives is None:
        return stand, 0
    return push_by_words(train, stand, i + 1, gives)


def row_by_words(train, stand, row):
    total = 0
    for i, way, times in row:
        for push in range(times):
            stand, shown = push_by_words(train, stand, i, way)
            total += shown
    return stand, total


def rows_for(train, seed, many, longest, most):
    """Rows drawn from a fixed seed, so that each run tests the same."""
    draw = random.Random(seed)
    rows = []
    for number in range(many):
        deeds = draw.randint(0, longest)
        rows.append([(draw.randrange(len(train)), draw.choice((1, -1)), draw.randint(0, most))
                     for deed in range(deeds)])
    return rows
