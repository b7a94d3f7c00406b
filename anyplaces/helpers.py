"""The fewest places by whose words the word at another place is told whole."""

from anyplaces.demands import need_code, need_count, need_part, need_places, need_width
from anyplaces.errors import InvalidNumber
from anyplaces.ordering import ordered
from anyplaces.plans import Plan
from anyplaces.reading import told_at
from anyplaces.values import WIDEST, are_some_of, is_between, is_one_of, twos_of


def need_other(places, allowed, place):
    """Raises InvalidPlaces or InvalidNumber unless these are some of the places, and a place that is not among them."""
    need_part(places, allowed)
    if not is_one_of(places, place) or place in allowed:
        raise InvalidNumber(place)


def tells_whole(width, count, asked, place):
    """Returns whether the words at the asked places tell the word at a place whole."""
    return told_at(Plan(width, asked, count), place) == width


def follows(width, places, count, allowed, place):
    """Returns whether the word at a place is told by the words at all allowed places."""
    need_code(width, places, count)
    need_other(places, allowed, place)
    return tells_whole(width, count, allowed, place)


def levels_of(allowed, place):
    """Returns a dict of the allowed places by their levels."""
    levels = {}
    for other in allowed:
        levels.setdefault(twos_of(other - place), []).append(other)
    return levels


def in_turn(allowed, place):
    """Returns the list of tuples of a level and a place, as they are taken if no width and no count ends it."""
    levels = levels_of(allowed, place)
    taken = []
    for level in sorted(levels, reverse=True):
        room = sum([higher - level for higher, _ in taken])
        # the good order of a level looks always at the place with the least cost
        order, numbers = ordered(levels[level])
        for k, other in enumerate(order):
            if numbers[k] - level * k > room:
                break
            taken.append((level, other))
    return taken


def taken_for(width, count, allowed, place):
    """Returns the list of the helpers that are taken, in turn, None if there are none."""
    taken = []
    if count == 0:
        return taken
    told = 0
    for level, other in in_turn(allowed, place):
        taken.append(other)
        told += level
        if told >= width or len(taken) == count:
            return taken
    return None


def fewest_helpers(width, places, count, allowed, place):
    """Returns how few helpers are enough, None if there are none."""
    need_code(width, places, count)
    need_other(places, allowed, place)
    taken = taken_for(width, count, allowed, place)
    return None if taken is None else len(taken)


def helpers(width, places, count, allowed, place):
    """Returns the ascending list of the fewest helpers that are taken, None if there are none."""
    need_code(width, places, count)
    need_other(places, allowed, place)
    taken = taken_for(width, count, allowed, place)
    return None if taken is None else sorted(taken)


def is_helpers(width, places, count, allowed, place, value):
    """Returns whether a value is a list of helpers, as few as can be."""
    need_code(width, places, count)
    need_other(places, allowed, place)
    taken = taken_for(width, count, allowed, place)
    if taken is None or not are_some_of(allowed, value) or len(value) != len(taken):
        return False
    return tells_whole(width, count, value, place)


def reach(places, count, allowed, place):
    """Returns the list of the greatest widths at which 0, 1, 2 and so on helpers are enough, None for every one."""
    need_places(WIDEST, places)
    need_count(count)
    need_other(places, allowed, place)
    widths = [0]
    for level, _ in in_turn(allowed, place)[:count]:
        widths.append(widths[-1] + level)
    if len(widths) > count:
        widths[count] = None
    return widths


def steps_needed(width, count, bits):
    """Returns how many next places, 2 ** bits apart, tell a word."""
    need_width(width)
    need_count(count)
    if not is_between(bits, 0, WIDEST):
        raise InvalidNumber(bits)
    k = 0
    told = 0
    while k < count and told < width:
        k += 1
        told += bits + twos_of(k)
    return k
