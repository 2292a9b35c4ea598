"""Least pushes and fewest deeds from stand to stand, and their judges: points 13 to 15."""

from clicktrain.errors import NoRow, TooMany
from clicktrain.rows import is_deed, row_left
from clicktrain.search import Search
from clicktrain.trains import check_stand, is_stand, is_way, is_whole, pushed, stand_count

MOST_STANDS = 500


def check_keys(train, keys):
    """None, or NoRow where they are no keys of the train, which is right."""
    if not isinstance(keys, list):
        raise NoRow("keys are a list of numbers of parts")
    seen = set()
    for key in keys:
        if not is_whole(key) or key < 0 or key >= len(train) or key in seen:
            raise NoRow("a key is the number of a part, each once")
        seen.add(key)


def check_asked(train, stand, goal, keys):
    check_stand(train, stand)
    check_stand(train, goal)
    check_keys(train, keys)


def check_size(train):
    if stand_count(train) > MOST_STANDS:
        raise TooMany("the train has more stands than are gone through")


def pushes_at(keys):
    return [(i, way) for i in keys for way in (1, -1)]


def told_way(search, goal):
    stands = sorted(search.met)
    if goal not in search.numbers:
        return "never", stands
    return "row", search.path(goal), [(stand, search.numbers[stand]) for stand in stands]


def least_pushes(train, stand, goal, keys):
    """("row", pushes, numbers), or ("never", stands); or NoTrain, NoStand, NoRow, TooMany."""
    check_asked(train, stand, goal, keys)
    check_size(train)
    search = Search(stand)
    at = 0
    while at < len(search.met):
        here = search.met[at]
        at += 1
        for i, way in pushes_at(keys):
            search.meet(here, (i, way), pushed(train, here, i, way)[0])
    return told_way(search, goal)


def stands_along(train, stand, i, way, passed):
    """The stands that pushes one behind the other lead to, up to one that was passed already."""
    along = []
    after = pushed(train, stand, i, way)[0]
    while after not in passed:
        passed[after] = True
        along.append(after)
        after = pushed(train, after, i, way)[0]
    return along


def fewest_deeds(train, stand, goal, keys):
    """("row", row, numbers), or ("never", stands); or NoTrain, NoStand, NoRow, TooMany."""
    check_asked(train, stand, goal, keys)
    check_size(train)
    search = Search(stand)
    # What lies behind a passed stand was met by as few deeds from an earlier start, so it is left out.
    passed = {push: {} for push in pushes_at(keys)}
    at = 0
    while at < len(search.met):
        here = search.met[at]
        at += 1
        for i, way in pushes_at(keys):
            along = stands_along(train, here, i, way, passed[(i, way)])
            for times, after in enumerate(along, start=1):
                search.meet(here, (i, way, times), after)
    return told_way(search, goal)


def is_push(thing, keys):
    """Whether it is a push at a key."""
    if not isinstance(thing, tuple) or len(thing) != 2:
        return False
    return is_whole(thing[0]) and thing[0] in keys and is_way(thing[1])


def are_pushes(thing, keys):
    return isinstance(thing, list) and all(is_push(push, keys) for push in thing)


def are_deeds(thing, train, keys):
    """Whether it is a row of deeds at keys, each of one push or more."""
    if not isinstance(thing, list):
        return False
    return all(is_deed(deed, len(train)) and deed[0] in keys and deed[2] >= 1 for deed in thing)


def is_numbered(thing, train):
    if not isinstance(thing, tuple) or len(thing) != 2:
        return False
    return is_stand(train, thing[0]) and is_whole(thing[1]) and thing[1] >= 0


def are_numbers(thing, train):
    """Whether it is a list of stands with their numbers, each stand once."""
    if not isinstance(thing, list) or not all(is_numbered(pair, train) for pair in thing):
        return False
    return len({stand for stand, number in thing}) == len(thing)


def is_row_paper(thing):
    return isinstance(thing, tuple) and len(thing) == 3 and thing[0] == "row"


def behind_pushes(train, stand, pushes):
    for i, way in pushes:
        stand = pushed(train, stand, i, way)[0]
    return stand


def pushes_hold(train, numbers, keys):
    """Whether each push at a key leads to a number of at most one more."""
    for stand in numbers:
        for i, way in pushes_at(keys):
            after = pushed(train, stand, i, way)[0]
            if after not in numbers or numbers[after] > numbers[stand] + 1:
                return False
    return True


def shows_row(train, stand, goal, keys, thing):
    """Whether the thing is right of the least pushes to the goal; or NoTrain, NoStand, NoRow."""
    check_asked(train, stand, goal, keys)
    if not is_row_paper(thing) or not are_pushes(thing[1], keys) or not are_numbers(thing[2], train):
        return False
    numbers = dict(thing[2])
    if numbers.get(stand) != 0 or numbers.get(goal) != len(thing[1]):
        return False
    return behind_pushes(train, stand, thing[1]) == goal and pushes_hold(train, numbers, keys)


def along_holds(train, stand, push, numbers, cleared):
    """Whether pushes of one way at one part, however many, lead to numbers of at most one more."""
    i, way = push
    most = numbers[stand] + 1
    after = pushed(train, stand, i, way)[0]
    # A stand of a lesser number is a start of its own, from which no number above most may come either;
    # a cleared one of this number was gone on from before.
    while numbers.get(after) == most and after not in cleared:
        cleared[after] = True
        after = pushed(train, after, i, way)[0]
    return after in numbers and numbers[after] <= most


def deeds_hold(train, numbers, keys):
    """Whether each deed at a key leads to a number of at most one more."""
    for push in pushes_at(keys):
        cleared = {}
        for stand in numbers:
            if not along_holds(train, stand, push, numbers, cleared):
                return False
    return True


def shows_deeds(train, stand, goal, keys, thing):
    """Whether the thing is right of the fewest deeds to the goal; or NoTrain, NoStand, NoRow."""
    check_asked(train, stand, goal, keys)
    if not is_row_paper(thing) or not are_deeds(thing[1], train, keys) or not are_numbers(thing[2], train):
        return False
    numbers = dict(thing[2])
    if numbers.get(stand) != 0 or numbers.get(goal) != len(thing[1]):
        return False
    return row_left(train, stand, thing[1])[0] == goal and deeds_hold(train, numbers, keys)


def are_stands(thing, train):
    """Whether it is a list of stands, each once."""
    if not isinstance(thing, list) or not all(is_stand(train, stand) for stand in thing):
        return False
    return len(set(thing)) == len(thing)


def shows_never(train, stand, goal, keys, thing):
    """Whether the thing is right of no pushes leading to the goal; or NoTrain, NoStand, NoRow."""
    check_asked(train, stand, goal, keys)
    if not isinstance(thing, tuple) or len(thing) != 2 or thing[0] != "never" or not are_stands(thing[1], train):
        return False
    # With one number for all, each push need only lead to one of the stands.
    among = {told: 0 for told in thing[1]}
    return stand in among and goal not in among and pushes_hold(train, among, keys)
