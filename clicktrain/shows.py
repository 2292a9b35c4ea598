"""Trains that show alike, and the judge of it: points 11 and 12."""

from clicktrain.search import Search
from clicktrain.trains import check_stand, is_stand, is_way, pushed

# By 1 ahead of by -1, so that of the fewest pushes the first ones are found.
AT_FIRST_PART = ((0, 1), (0, -1))


class Mover:
    """A train with the pushes that may come to it; each stand is pushed only once by each."""

    def __init__(self, train, pushes):
        self.train = train
        self.pushes = pushes
        self.known = {}

    def moves(self, stand):
        """For each push, in their order, the stand behind it and what is shown."""
        if stand not in self.known:
            self.known[stand] = [pushed(self.train, stand, i, way) for i, way in self.pushes]
        return self.known[stand]


def held_against(one, here, other, there):
    """("alike", pairs) with all pairs that come, in order, or ("apart", pushes), the fewest, of these the first."""
    search = Search((here, there))
    at = 0
    while at < len(search.met):
        pair = search.met[at]
        at += 1
        for push, mine, its in zip(one.pushes, one.moves(pair[0]), other.moves(pair[1])):
            if mine[1] != its[1]:
                return "apart", search.path(pair) + [push]
            search.meet(pair, push, (mine[0], its[0]))
    return "alike", sorted(search.met)


def trains_alike(train, stand, other, there):
    """("alike", pairs), or ("apart", pushes); or NoTrain, NoStand."""
    check_stand(train, stand)
    check_stand(other, there)
    word, told = held_against(Mover(train, AT_FIRST_PART), stand, Mover(other, AT_FIRST_PART), there)
    if word == "apart":
        return word, [way for i, way in told]
    return word, told


def are_pairs(train, other, thing):
    """Whether it is a list of tuples of a stand of each train, each pair once."""
    if not isinstance(thing, list):
        return False
    seen = set()
    for pair in thing:
        if not isinstance(pair, tuple) or len(pair) != 2:
            return False
        if not is_stand(train, pair[0]) or not is_stand(other, pair[1]) or pair in seen:
            return False
        seen.add(pair)
    return True


def pairs_hold(one, other, pairs, start):
    """Whether the start is among the pairs, and each push from each shows the same and leads to one of them."""
    among = {pair: True for pair in pairs}
    if start not in among:
        return False
    for here, there in pairs:
        for mine, its in zip(one.moves(here), other.moves(there)):
            if mine[1] != its[1] or (mine[0], its[0]) not in among:
                return False
    return True


def unlike_at_last(train, stand, other, there, pushes):
    """Whether at the last push unlike is shown; where there is none, nothing is."""
    shown = 0
    shown_there = 0
    for i, way in pushes:
        stand, shown = pushed(train, stand, i, way)
        there, shown_there = pushed(other, there, i, way)
    return shown != shown_there


def tells_alike(train, stand, other, there, pairs):
    if not are_pairs(train, other, pairs) or pairs != sorted(pairs):
        return False
    return pairs_hold(Mover(train, AT_FIRST_PART), Mover(other, AT_FIRST_PART), pairs, (stand, there))


def tells_apart(train, stand, other, there, ways):
    if not isinstance(ways, list) or not all(is_way(way) for way in ways):
        return False
    return unlike_at_last(train, stand, other, there, [(0, way) for way in ways])


def shows_alike(train, stand, other, there, thing):
    """Whether the thing is right of how both show; or NoTrain, NoStand."""
    check_stand(train, stand)
    check_stand(other, there)
    if not isinstance(thing, tuple) or len(thing) != 2:
        return False
    if thing[0] == "alike":
        return tells_alike(train, stand, other, there, thing[1])
    return thing[0] == "apart" and tells_apart(train, stand, other, there, thing[1])
