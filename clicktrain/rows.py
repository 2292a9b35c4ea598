"""Rows of deeds and what they leave, once or often: points 7 and 8."""

from clicktrain.errors import NoCount, NoRow
from clicktrain.trains import check_stand, is_way, is_whole


def is_deed(thing, parts):
    if not isinstance(thing, tuple) or len(thing) != 3:
        return False
    i, way, times = thing
    if not is_whole(i) or not is_way(way) or not is_whole(times):
        return False
    return 0 <= i < parts and times >= 0


def check_row(train, row):
    """None, or NoRow where it is no row of the train; the train is right."""
    if not isinstance(row, list):
        raise NoRow("a row is a list of deeds")
    for deed in row:
        if not is_deed(deed, len(train)):
            raise NoRow("a deed is a part's number, a way and times")


def marks_up_to(marks, place):
    """How many of the rising marks are at most place."""
    # Halving, since a wheel that was told may have very many marks.
    low = 0
    high = len(marks)
    while low < high:
        middle = (low + high) // 2
        if marks[middle] <= place:
            low = middle + 1
        else:
            high = middle
    return low


def marks_ahead(part, tooth):
    """Marks up to a tooth counted on over all turns; below 0 it counts down."""
    return tooth // part[1] * len(part[2]) + marks_up_to(part[2], tooth % part[1])


def wheel_turned(part, place, way, times):
    after = place + way * times
    # Both ways the teeth that are passed are those behind the lesser end, up to the greater one.
    given = abs(marks_ahead(part, after) - marks_ahead(part, place))
    return after % part[1], given


def rocker_turned(place, way, times):
    if times == 0:
        return place, 0
    if way == -1:
        return 0, 0
    return 1, 1 - place


def spring_turned(part, place, way, times):
    if way == -1:
        return max(0, place - times), 0
    return (place + times) % part[1], (place + times) // part[1]


def part_turned(part, place, way, times):
    """The part's place behind so many pushes one way, and how many it gives that way."""
    if part[0] == "wheel":
        return wheel_turned(part, place, way, times)
    if part[0] == "rocker":
        return rocker_turned(place, way, times)
    if part[0] == "spring":
        return spring_turned(part, place, way, times)
    return place, (times if way == 1 else 0)


def row_left(train, stand, row):
    """As left, of a train, a stand and a row that are known to be right."""
    places = list(stand)
    total = 0
    for i, way, times in row:
        given = times
        for number in range(i, len(train)):
            places[number], given = part_turned(train[number], places[number], way, given)
        total += way * given
    return tuple(places), total


def left(train, stand, row):
    """The stand behind the row and the sum of all shown, or NoTrain, NoStand, NoRow."""
    check_stand(train, stand)
    check_row(train, row)
    return row_left(train, stand, row)


def check_count(times):
    if not is_whole(times) or times < 0:
        raise NoCount("times are a whole number from 0 on")


def left_often(train, stand, row, times):
    """What the row leaves when it is done so many times, or as left, then NoCount."""
    check_stand(train, stand)
    check_row(train, row)
    check_count(times)
    first_met = {}
    stands = []
    sums = []
    total = 0
    while len(stands) < times and stand not in first_met:
        first_met[stand] = len(stands)
        stands.append(stand)
        sums.append(total)
        stand, shown = row_left(train, stand, row)
        total += shown
    if len(stands) == times:
        return stand, total
    # The stand has come again, so only the rest of the last round counts.
    start = first_met[stand]
    rounds, rest = divmod(times - start, len(stands) - start)
    return stands[start + rest], sums[start + rest] + rounds * (total - sums[start])
