"""Worn teeth, what explains what was shown, groups of wears and the judge of them: points 16 to 18."""

from clicktrain.errors import NoRow, TooMany
from clicktrain.shows import Mover, are_pairs, held_against, pairs_hold, unlike_at_last
from clicktrain.trains import check_stand, check_train, is_way, is_whole, pushed, stand_count
from clicktrain.ways import are_pushes, check_keys, pushes_at

MOST_STANDS = 60
MOST_WEARS = 12


def wears(train):
    """The wears of the train, None first, then in order; or NoTrain."""
    check_train(train)
    found = [None]
    for i, part in enumerate(train):
        if part[0] == "wheel":
            found.extend([(i, mark) for mark in part[2]])
    return found


def without_mark(wheel, mark):
    return ("wheel", wheel[1], tuple([kept for kept in wheel[2] if kept != mark]))


def worn_by(train, wear):
    """As worn, of a train that is known to be right."""
    parts = list(train)
    if wear is not None:
        i, mark = wear
        parts[i] = without_mark(parts[i], mark)
    return parts


def worn(train, wear):
    """The train as it is by one of its wears; or NoTrain."""
    check_train(train)
    return worn_by(train, wear)


def is_shown(thing, parts):
    """Whether it is a push at one of so many parts, and what was shown at it."""
    if not isinstance(thing, tuple) or len(thing) != 3:
        return False
    i, way, shown = thing
    if not is_whole(i) or not is_way(way) or not is_whole(shown):
        return False
    return 0 <= i < parts and shown in (1, -1, 0)


def check_shown(train, shows):
    if not isinstance(shows, list) or not all(is_shown(thing, len(train)) for thing in shows):
        raise NoRow("what was shown is a list of a part, a way and what was shown")


def explains(train, stand, shows):
    """Whether just that is shown from the stand."""
    for i, way, shown in shows:
        stand, given = pushed(train, stand, i, way)
        if given != shown:
            return False
    return True


def explained(train, stand, shows):
    """The wears by which just that is shown, in order; or NoTrain, NoStand, NoRow."""
    check_stand(train, stand)
    check_shown(train, shows)
    return [wear for wear in wears(train) if explains(worn_by(train, wear), stand, shows)]


def movers_of(train, keys):
    """For each wear of the train, in order, the train worn so, pushed at keys."""
    pushes = pushes_at(keys)
    return [Mover(worn_by(train, wear), pushes) for wear in wears(train)]


def check_size(train):
    if stand_count(train) > MOST_STANDS or len(wears(train)) > MOST_WEARS:
        raise TooMany("the train has more stands or wears than are gone through")


def two_groups(many):
    """The numbers of each two of so many groups, in order."""
    return [(first, second) for first in range(many) for second in range(first + 1, many)]


def wear_groups(train, stand, keys):
    """(groups, pushes, pairs) of the wears that are never told apart; or NoTrain, NoStand, NoRow, TooMany."""
    check_stand(train, stand)
    check_keys(train, keys)
    check_size(train)
    groups = []
    firsts = []
    apart = {}
    pairs = []
    for wear, mover in zip(wears(train), movers_of(train, keys)):
        told = [held_against(first, stand, mover, stand) for first in firsts]
        words = [word for word, found in told]
        if "alike" in words:
            same = words.index("alike")
            groups[same].append(wear)
            pairs.append(told[same][1])
        else:
            for number, (word, pushes) in enumerate(told):
                apart[(number, len(groups))] = pushes
            groups.append([wear])
            firsts.append(mover)
    return groups, [apart[both] for both in two_groups(len(groups))], pairs


def is_wear(thing, places):
    """Whether it is one of the wears of which places tells the order."""
    if thing is None:
        return True
    if not isinstance(thing, tuple) or len(thing) != 2 or not is_whole(thing[0]) or not is_whole(thing[1]):
        return False
    return thing in places


def is_rising(numbers):
    return all(numbers[at] < numbers[at + 1] for at in range(len(numbers) - 1))


def is_group(thing, places):
    """Whether it is a list of one wear or more, in order."""
    if not isinstance(thing, list) or len(thing) == 0 or not all(is_wear(wear, places) for wear in thing):
        return False
    return is_rising([places[wear] for wear in thing])


def are_groups(thing, places):
    """Whether it is a list of groups in order, with each wear in one of them."""
    if not isinstance(thing, list) or not all(is_group(group, places) for group in thing):
        return False
    told = [places[wear] for group in thing for wear in group]
    return sorted(told) == list(range(len(places))) and is_rising([places[group[0]] for group in thing])


def pushes_tell(stand, keys, firsts, thing):
    """Whether the thing has, for each two of the first wears, pushes that tell them apart."""
    between = two_groups(len(firsts))
    if not isinstance(thing, list) or len(thing) != len(between):
        return False
    for (number, later), pushes in zip(between, thing):
        one = firsts[number]
        other = firsts[later]
        if not are_pushes(pushes, keys) or not unlike_at_last(one.train, stand, other.train, stand, pushes):
            return False
    return True


def pairs_tell(stand, both, thing):
    """Whether the thing has, for each wear with its group's first one, pairs by which they stay alike."""
    if not isinstance(thing, list) or len(thing) != len(both):
        return False
    for (first, mover), pairs in zip(both, thing):
        if not are_pairs(first.train, mover.train, pairs) or not pairs_hold(first, mover, pairs, (stand, stand)):
            return False
    return True


def shows_groups(train, stand, keys, thing):
    """Whether the thing is right of the groups of wears; or NoTrain, NoStand, NoRow."""
    check_stand(train, stand)
    check_keys(train, keys)
    places = {wear: number for number, wear in enumerate(wears(train))}
    if not isinstance(thing, tuple) or len(thing) != 3 or not are_groups(thing[0], places):
        return False
    groups, pushes, pairs = thing
    movers = movers_of(train, keys)
    firsts = [movers[places[group[0]]] for group in groups]
    if not pushes_tell(stand, keys, firsts, pushes):
        return False
    later = sorted([(places[wear], places[group[0]]) for group in groups for wear in group[1:]])
    return pairs_tell(stand, [(movers[first], movers[number]) for number, first in later], pairs)
