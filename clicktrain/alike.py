"""Rows that act alike, and the round of a row: points 9 and 10."""

from clicktrain.rows import check_row, part_turned, row_left
from clicktrain.trains import check_train, place_count, stands_of


def passed_on(part, at, place, deeds):
    """The place of part at behind the deeds, and what of them comes to the parts behind it."""
    further = []
    for i, way, times in deeds:
        given = times
        if i <= at:
            place, given = part_turned(part, place, way, times)
        if given > 0:
            further.append((i, way, given))
    return place, tuple(further)


def shown_sum(deeds):
    return sum([way * given for i, way, given in deeds])


def first_apart(train, at, one, other, known):
    """The first places, from part at on, from which the deeds leave unlike ones; None where there are none."""
    if one == other:
        return None
    if at == len(train):
        return None if shown_sum(one) == shown_sum(other) else ()
    # Many places ahead pass on the same deeds; the parts behind are gone through once for all of these.
    key = (at, one, other)
    if key not in known:
        known[key] = first_apart_by_place(train, at, one, other, known)
    return known[key]


def first_apart_by_place(train, at, one, other, known):
    for place in range(place_count(train[at])):
        left_by_one, further_one = passed_on(train[at], at, place, one)
        left_by_other, further_other = passed_on(train[at], at, place, other)
        if left_by_one != left_by_other:
            return (place,) + (0,) * (len(train) - at - 1)
        rest = first_apart(train, at + 1, further_one, further_other, known)
        if rest is not None:
            return (place, *rest)
    return None


def rows_alike(train, one, other):
    """("alike",), or ("apart", stand) with the first stand that tells the rows apart; or NoTrain, NoRow."""
    check_train(train)
    check_row(train, one)
    check_row(train, other)
    stand = first_apart(train, 0, tuple(one), tuple(other), {})
    if stand is None:
        return ("alike",)
    return "apart", stand


def common_multiple(one, other):
    """The least number that both divide."""
    high = one
    low = other
    while low > 0:
        high, low = low, high % low
    return one // high * other


def walk_from(stand, after, ahead_of):
    """The stands that come one behind the other, none twice, up to one that is known or was walked already."""
    walked = {}
    while stand not in ahead_of and stand not in walked:
        walked[stand] = True
        stand = after[stand]
    return list(walked)


def row_round(train, row):
    """The times ahead of the round and the least round of all stands; or NoTrain, NoRow."""
    check_train(train)
    check_row(train, row)
    stands = stands_of(train)
    after = {stand: row_left(train, stand, row)[0] for stand in stands}
    ahead_of = {}
    turn = 1
    for stand in stands:
        walked = walk_from(stand, after, ahead_of)
        # The last one leads to a known stand, or back into the walk: then a new ring begins there.
        if walked and after[walked[-1]] not in ahead_of:
            start = walked.index(after[walked[-1]])
            turn = common_multiple(turn, len(walked) - start)
            for inner in walked[start:]:
                ahead_of[inner] = 0
            walked = walked[:start]
        for inner in reversed(walked):
            ahead_of[inner] = ahead_of[after[inner]] + 1
    return max(ahead_of.values()), turn
