"""At how many places codewords differ at least, and the codewords that differ from 0 at just so many."""

from math import comb

from anyplaces.bestparts import counts_with, lost_parts
from anyplaces.demands import need_count, need_places
from anyplaces.errors import InvalidNumber
from anyplaces.ordering import how_many_items, ordered
from anyplaces.plans import plan_of, read_off
from anyplaces.telling import hidden_of
from anyplaces.trees import branch_of
from anyplaces.values import WIDEST, are_words_at, is_between, is_whole, widths_of


def lost_of(plan):
    """Returns as few places as can be whose loss leaves a part that is not telling, None if every part is."""
    return lost_parts(branch_of(plan.code_places), [plan.many])[plan.many]


def distance_of(plan):
    """Returns the distance of a code, None if there is one codeword alone."""
    lost = lost_of(plan)
    return None if lost is None else len(lost)


def distance(width, places, count):
    """Returns at how many places two unlike codewords differ at least, None if there is one codeword alone."""
    return distance_of(plan_of(width, places, count))


def hurting(width, places, count):
    """Returns a list of as few places as can be whose loss leaves a part that is not telling, or None."""
    lost = lost_of(plan_of(width, places, count))
    return None if lost is None else sorted(lost)


def least_lost(places, j):
    """Returns how few places have to be lost until no best part of j places is left, None for none."""
    need_places(WIDEST, places)
    if not is_between(j, 0, len(places)):
        raise InvalidNumber(j)
    lost = lost_parts(branch_of(places), [j])[j]
    return None if lost is None else len(lost)


def lightest(width, places, count):
    """Returns a codeword that is not 0 at just as many places as the distance tells, or None."""
    plan = plan_of(width, places, count)
    lost = lost_of(plan)
    if lost is None:
        return None
    # it is 0 at all other places, and at none of the lost ones, since no codeword is lighter
    return hidden_of(plan, [place for place in places if place not in lost])


def is_lightest(width, places, count, value):
    """Returns whether a value is a codeword that is not 0 at just as many places as the distance tells."""
    plan = plan_of(width, places, count)
    if not are_words_at(width, places, value) or read_off(plan, value)[0] is None:
        return False
    return len([word for word in value if word]) == distance_of(plan)


def by_widths(places, count):
    """Returns tuples of a width, its number of items and its distance, where the number of items changes."""
    need_places(WIDEST, places)
    need_count(count)
    numbers = ordered(places)[1]
    many_at = {width: how_many_items(width, numbers, count) for width in widths_of(places)}
    lost = lost_parts(branch_of(places), sorted(set(list(many_at.values()))))
    told = []
    for width, many in many_at.items():
        if not told or told[-1][1] != many:
            told.append((width, many, None if lost[many] is None else len(lost[many])))
    return told


def how_many_light(width, places, count):
    """Returns how many lightest codewords have no words but 0 and 2 ** (width - 1)."""
    plan = plan_of(width, places, count)
    many = distance_of(plan)
    if many is None:
        return 0
    left = len(places) - many
    return comb(len(places), left) - counts_with(branch_of(places), plan.many, len(places))[left]


def apart(many, items, found):
    """Returns the distance of so many neighbours with at least one item; found keeps what is told already."""
    if items == 1:
        return many
    key = (many, items)
    if key not in found:
        half = many // 2
        i = items // 2
        told = apart(half, i, found)
        if items & 1 and i < half:
            told = min(told, apart(many - half, i + 1, found) + apart(half, i + 1, found))
        found[key] = told
    return found[key]


def neighbour_distance(many, items):
    """Returns the distance of a code with so many neighbours as places and so many items, None for no items."""
    if not is_whole(many) or many < 1:
        raise InvalidNumber(many)
    if not is_between(items, 0, many):
        raise InvalidNumber(items)
    return None if items == 0 else apart(many, items, {})
