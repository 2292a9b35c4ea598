"""Trains behind one another, signs fed, the wheel of a ring, one-way trains and spare parts: points 28 to 33."""

from clicktrain.alike import common_multiple
from clicktrain.errors import NoPushes, NoWheel
from clicktrain.shows import AT_FIRST_PART, Mover, held_against
from clicktrain.trains import check_stand, check_train, is_whole, pushed


def joined(one, other):
    """The train of the first one's parts and, behind them, the second one's; or NoTrain."""
    check_train(one)
    check_train(other)
    return one + other


def together(one, here, other, there):
    """The stand of the joined train that a stand of each makes; or NoTrain, NoStand."""
    check_stand(one, here)
    check_stand(other, there)
    return here + there


def parted(one, other, stand):
    """The stands of both trains that a stand of the joined one is made of; or NoTrain, NoStand."""
    check_stand(joined(one, other), stand)
    return stand[:len(one)], stand[len(one):]


def is_sign(thing):
    return is_whole(thing) and thing in (1, -1, 0)


def fed(train, stand, signs):
    """The stand behind all signs, and what is shown at each; or NoTrain, NoStand, NoPushes."""
    check_stand(train, stand)
    if not isinstance(signs, list) or not all(is_sign(thing) for thing in signs):
        raise NoPushes("signs are a list of 1, -1 and 0")
    shown = []
    for sign in signs:
        given = 0
        if sign != 0:
            stand, given = pushed(train, stand, 0, sign)
        shown.append(given)
    return stand, shown


def least_turn(teeth, beats):
    """The least turn of pushes in turns of so many teeth, of which those numbered by beats give; and its beats."""
    if not beats:
        return 1, []
    many = len(beats)
    gaps = [later - beat for beat, later in zip(beats, beats[1:] + [beats[0] + teeth])]
    # The pushes go round in a lesser turn just where the gaps between those that give do.
    part = 1
    while many % part != 0 or gaps[part:] != gaps[:many - part]:
        part += 1
    return sum(gaps[:part]), beats[:part]


def turn_behind(teeth, beats, wheel, place):
    """As least_turn, of what a wheel gives to which those pushes come that are numbered by beats."""
    if not beats:
        return 1, []
    many = len(beats)
    come = common_multiple(many, wheel[1])
    found = []
    # Only pushes that lead to a mark are gone through: a wheel that was told may have very many teeth.
    for mark in wheel[2]:
        for number in range((mark - place - 1) % wheel[1], come, wheel[1]):
            found.append(number // many * teeth + beats[number % many])
    return least_turn(come // many * teeth, sorted(found))


def least_wheel(train, stand):
    """The wheel of fewest teeth that at place 0 shows alike with a train of wheels; or NoTrain, NoStand, NoWheel."""
    check_stand(train, stand)
    if any(part[0] != "wheel" for part in train):
        raise NoWheel("only wheels go round in a ring")
    teeth = 1
    beats = [1]
    for wheel, place in zip(train, stand):
        teeth, beats = turn_behind(teeth, beats, wheel, place)
    # The last push of a turn leads back to place 0.
    return "wheel", teeth, tuple(sorted([beat % teeth for beat in beats]))


def gives_back(part):
    """Whether the part gives -1 at some place."""
    return part[0] == "wheel" and len(part[2]) > 0


def one_way(train):
    """Whether no signs that are fed to the train ever show -1; or NoTrain."""
    check_train(train)
    return not all(gives_back(part) for part in train)


def is_spare(whole, stand, i):
    """Whether the train of a Mover shows alike without part i."""
    rest = whole.train[:i] + whole.train[i + 1:]
    told = held_against(whole, stand, Mover(rest, AT_FIRST_PART), stand[:i] + stand[i + 1:])
    return told[0] == "alike"


def spare(train, stand):
    """The numbers of the parts without which the train shows alike; or NoTrain, NoStand."""
    check_stand(train, stand)
    if len(train) == 1:
        return []
    whole = Mover(train, AT_FIRST_PART)
    return [i for i in range(len(train)) if is_spare(whole, stand, i)]


def pairs_together(pairs, others):
    """("alike", list), of all pairs that are put together of one of each, in order, each once."""
    return "alike", sorted({(here + one, there + other) for here, there in pairs for one, other in others})
