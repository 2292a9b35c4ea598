"""The smallest wheel that does shows, alone or behind a train, its judges, and all teeth that do: points 19 to 24."""

from clicktrain.errors import NoCount, NoRow
from clicktrain.joins import fed
from clicktrain.trains import are_marks, check_stand, is_way, is_whole

MOST_TEETH = 200


def is_show(thing):
    """Whether it is a push's way, and what was shown at it."""
    if not isinstance(thing, tuple) or len(thing) != 2:
        return False
    return is_way(thing[0]) and is_whole(thing[1]) and thing[1] in (1, -1, 0)


def check_shows(shows):
    if not isinstance(shows, list) or not all(is_show(thing) for thing in shows):
        raise NoRow("shows are a list of a way and what was shown")


def passes_of(comes, shows):
    """For each push what comes to the wheel, the tooth that this passes, and what was shown."""
    passes = []
    total = 0
    for came, (way, shown) in zip(comes, shows):
        tooth = total + 1 if came == 1 else total
        passes.append((came, tooth, shown))
        total += came
    return passes


def passes_alone(shows):
    """The passes of shows, each push coming to the wheel; or NoRow."""
    check_shows(shows)
    return passes_of([way for way, shown in shows], shows)


def passes_behind(train, stand, shows):
    """The passes of shows behind a train; or NoTrain, NoStand, NoRow."""
    check_stand(train, stand)
    check_shows(shows)
    after, comes = fed(train, stand, [way for way, shown in shows])
    return passes_of(comes, shows)


def is_wrong(push):
    """Whether no wheel shows this, whatever its marks."""
    came, tooth, shown = push
    return shown not in (came, 0)


def are_unlike(one, other):
    """Whether both pass a tooth, and just one of them shows 0."""
    return one[0] != 0 and other[0] != 0 and (one[2] == 0) != (other[2] == 0)


def first_clash(passes, teeth):
    """Two pushes that pass the same place of so many teeth, unlike; None where there are none."""
    first = {}
    for k, push in enumerate(passes):
        if push[0] != 0:
            j = first.setdefault(push[1] % teeth, k)
            if are_unlike(passes[j], push):
                return j, k
    return None


def marks_of(passes, teeth):
    return tuple(sorted({tooth % teeth for came, tooth, shown in passes if shown != 0}))


def smallest_of(passes):
    for k, push in enumerate(passes):
        if is_wrong(push):
            return "none", k, k
    bars = []
    for teeth in range(1, max(1, len(passes)) + 1):
        clash = first_clash(passes, teeth)
        if clash is None:
            return "wheel", teeth, marks_of(passes, teeth), bars
        bars.append(clash)
    # On as many teeth as there are pushes no two that are passed fall together: the last two pass the same one.
    j, k = bars[-1]
    return "none", j, k


def smallest(shows):
    """("wheel", teeth, marks, bars), or ("none", j, k); or NoRow."""
    return smallest_of(passes_alone(shows))


def smallest_behind(train, stand, shows):
    """As smallest, of a wheel behind a train; or NoTrain, NoStand, NoRow."""
    return smallest_of(passes_behind(train, stand, shows))


def are_places(j, k, passes):
    """Whether both are places of pushes, the second one not ahead of the first."""
    return is_whole(j) and is_whole(k) and 0 <= j <= k < len(passes)


def is_bar(passes, teeth, thing):
    """Whether it tells of two pushes by which no wheel of so many teeth does."""
    if not isinstance(thing, tuple) or len(thing) != 2 or not are_places(thing[0], thing[1], passes):
        return False
    one = passes[thing[0]]
    other = passes[thing[1]]
    return (one[1] - other[1]) % teeth == 0 and are_unlike(one, other)


def does(passes, teeth, marks):
    marked = set(marks)
    for came, tooth, shown in passes:
        if shown != (came if tooth % teeth in marked else 0):
            return False
    return True


def tells_wheel(passes, teeth, marks, bars):
    # The bars are counted ahead of all else, since the teeth may be very many.
    if not is_whole(teeth) or teeth < 1 or not isinstance(bars, list) or len(bars) != teeth - 1:
        return False
    if not all(is_bar(passes, fewer, bar) for fewer, bar in enumerate(bars, start=1)):
        return False
    return are_marks(marks, teeth) and does(passes, teeth, marks)


def tells_none(passes, j, k):
    if not are_places(j, k, passes):
        return False
    if j == k:
        return is_wrong(passes[j])
    return passes[j][1] == passes[k][1] and are_unlike(passes[j], passes[k])


def is_right(passes, thing):
    """Whether the thing is right of the smallest wheel."""
    if not isinstance(thing, tuple):
        return False
    if len(thing) == 4 and thing[0] == "wheel":
        return tells_wheel(passes, thing[1], thing[2], thing[3])
    return len(thing) == 3 and thing[0] == "none" and tells_none(passes, thing[1], thing[2])


def is_smallest(shows, thing):
    """Whether the thing is right of the smallest wheel that does shows; or NoRow."""
    return is_right(passes_alone(shows), thing)


def is_smallest_behind(train, stand, shows, thing):
    """Whether the thing is right of the smallest wheel behind a train; or NoTrain, NoStand, NoRow."""
    return is_right(passes_behind(train, stand, shows), thing)


def teeth_of(shows, most):
    """All numbers of teeth up to most of which a wheel does shows; or NoRow, NoCount."""
    passes = passes_alone(shows)
    if not is_whole(most) or most < 1 or most > MOST_TEETH:
        raise NoCount("teeth are asked for from 1 to 200")
    if any(is_wrong(push) for push in passes):
        return []
    return [teeth for teeth in range(1, most + 1) if first_clash(passes, teeth) is None]
