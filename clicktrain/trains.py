"""Trains, their stands, and what one push does: points 5, 6 and the stands of 9."""

from clicktrain.errors import NoStand, NoTrain


def is_whole(thing):
    # A truth is an int to Python, but no number to the document.
    return isinstance(thing, int) and not isinstance(thing, bool)


def are_marks(thing, teeth):
    if not isinstance(thing, tuple):
        return False
    last = -1
    for mark in thing:
        if not is_whole(mark) or mark <= last or mark >= teeth:
            return False
        last = mark
    return True


def is_part(thing):
    if not isinstance(thing, tuple) or len(thing) == 0:
        return False
    if thing[0] == "wheel":
        return len(thing) == 3 and is_whole(thing[1]) and thing[1] >= 1 and are_marks(thing[2], thing[1])
    if thing[0] == "spring":
        return len(thing) == 2 and is_whole(thing[1]) and thing[1] >= 1
    return thing == ("click",) or thing == ("rocker",)


def check_train(train):
    """None, or NoTrain where it is none."""
    if not isinstance(train, list) or len(train) == 0:
        raise NoTrain("a train is a list of one part or more")
    for part in train:
        if not is_part(part):
            raise NoTrain("a train has only wheels, clicks, rockers and springs")


def place_count(part):
    if part[0] == "click":
        return 1
    if part[0] == "rocker":
        return 2
    return part[1]


def is_stand(train, thing):
    """Whether it is a stand of the train, which is right."""
    if not isinstance(thing, tuple) or len(thing) != len(train):
        return False
    for part, place in zip(train, thing):
        if not is_whole(place) or place < 0 or place >= place_count(part):
            return False
    return True


def check_stand(train, stand):
    """None, or NoTrain, and behind that NoStand where it is no stand of the train."""
    check_train(train)
    if not is_stand(train, stand):
        raise NoStand("a stand is a tuple with a place of each part")


def is_way(thing):
    return is_whole(thing) and thing in (1, -1)


def wheel_pushed(part, place, way):
    after = (place + way) % part[1]
    # The same tooth is passed both ways: by 1 it is come to, by -1 it is left.
    tooth = after if way == 1 else place
    return after, (way if tooth in part[2] else 0)


def rocker_pushed(place, way):
    if way == 1:
        return 1, (1 if place == 0 else 0)
    return 0, 0


def spring_pushed(part, place, way):
    if way == -1:
        return max(0, place - 1), 0
    if place == part[1] - 1:
        return 0, 1
    return place + 1, 0


def part_pushed(part, place, way):
    """The part's new place, and what it gives: 1, -1, or 0 for nothing."""
    if part[0] == "wheel":
        return wheel_pushed(part, place, way)
    if part[0] == "rocker":
        return rocker_pushed(place, way)
    if part[0] == "spring":
        return spring_pushed(part, place, way)
    return place, (1 if way == 1 else 0)


def pushed(train, stand, i, way):
    """The stand behind one push at part i, and what is shown."""
    places = list(stand)
    given = way
    for number in range(i, len(train)):
        if given == 0:
            break
        places[number], given = part_pushed(train[number], places[number], given)
    return tuple(places), given


def stand_count(train):
    """How many stands the train has, or NoTrain."""
    check_train(train)
    count = 1
    for part in train:
        count *= place_count(part)
    return count


def stands_of(train):
    """All stands of the train in the order of tuples, or NoTrain."""
    check_train(train)
    stands = [()]
    for part in train:
        stands = [(*ahead, place) for ahead in stands for place in range(place_count(part))]
    return stands
