"""Bases: what can be put in for their places, the cheapest one, how many there are, and all of them."""

from anyplaces.bestparts import all_parts, counts_with, how_many_parts
from anyplaces.bitrows import packed_rows, reduced_rows
from anyplaces.demands import need_places
from anyplaces.errors import InvalidNumber, InvalidPlaces, InvalidPrices, TooMany
from anyplaces.ordering import ordered
from anyplaces.plans import plan_of
from anyplaces.telling import is_base_of
from anyplaces.trees import branch_of, ways_to_split
from anyplaces.values import WIDEST, are_prices, is_between, is_one_of

MOST_BASES = 2000


def put_in_for(width, places, count, base, place):
    """Returns the list of the places of a base that a place outside of it can replace."""
    plan = plan_of(width, places, count)
    if not is_base_of(plan, base):
        raise InvalidPlaces(base)
    if not is_one_of(places, place) or place in base:
        raise InvalidNumber(place)
    reduced = reduced_rows(packed_rows(plan), [places.index(other) for other in base])
    at = places.index(place)
    # its bits are the sum of those of just these places, so each of them can go
    return [other for other in base if reduced[places.index(other)] >> at & 1]


def always_read(width, places, count):
    """Returns the list of the places that all bases have."""
    plan = plan_of(width, places, count)
    reduced = reduced_rows(packed_rows(plan), list(range(len(places))))
    return [places[at] for at, row in reduced.items() if row == 1 << at]


def need_prices(places, prices):
    """Raises InvalidPrices unless these are prices of the places."""
    if not are_prices(places, prices):
        raise InvalidPrices(prices)


def cheapest_of(plan, prices):
    """Returns the first base, the numbers of its places being told, of those with the least sum of prices."""
    turns = [at for _, at in sorted([(price, at) for at, price in enumerate(prices)])]
    return sorted(list(reduced_rows(packed_rows(plan), turns)))


def cheapest_base(width, places, count, prices):
    """Returns the least sum of prices of a base, and the first base that costs so much."""
    plan = plan_of(width, places, count)
    need_prices(places, prices)
    cheapest = cheapest_of(plan, prices)
    return sum([prices[at] for at in cheapest]), [places[at] for at in cheapest]


def is_cheapest(width, places, count, prices, value):
    """Returns whether a value is a base that costs no more than any other one."""
    plan = plan_of(width, places, count)
    need_prices(places, prices)
    if not is_base_of(plan, value):
        return False
    least = sum([prices[at] for at in cheapest_of(plan, prices)])
    return sum([prices[places.index(place)] for place in value]) == least


def splits(places, j):
    """Returns the list of how many of a best part of j places can be even."""
    need_places(WIDEST, places)
    if not is_between(j, 0, len(places)):
        raise InvalidNumber(j)
    evens = ordered([place for place in places if not place & 1])[1]
    odds = ordered([place for place in places if place & 1])[1]
    return ways_to_split(evens, odds)[j]


def how_many_bases(width, places, count):
    """Returns how many bases there are."""
    plan = plan_of(width, places, count)
    return how_many_parts(branch_of(places), plan.many, {})


def telling_counts(width, places, count):
    """Returns the list of how many telling parts have 0, 1, 2 and so on places."""
    plan = plan_of(width, places, count)
    return counts_with(branch_of(places), plan.many, len(places))


def all_bases(width, places, count):
    """Returns the list of all bases."""
    plan = plan_of(width, places, count)
    branch = branch_of(places)
    many = how_many_parts(branch, plan.many, {})
    if many > MOST_BASES:
        raise TooMany(many)
    return all_parts(branch, plan.many)


def base_numbered(width, places, count, number):
    """Returns the base that has so many bases ahead of it."""
    plan = plan_of(width, places, count)
    branch = branch_of(places)
    if not is_between(number, 0, how_many_parts(branch, plan.many, {}) - 1):
        raise InvalidNumber(number)
    fixed = {}
    left = number
    for place in places:
        fixed[place] = 1
        # the bases with this place are ahead of those without it
        with_it = how_many_parts(branch, plan.many, fixed)
        if left >= with_it:
            left -= with_it
            fixed[place] = 0
    return [place for place in places if fixed[place]]
