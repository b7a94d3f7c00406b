"""The good order of places and its numbers, for places that are right already."""

from anyplaces.values import twos_of


def costs_at_first(places):
    """Returns how many twos each place brings while none is taken: none at all."""
    return {place: 0 for place in places}


def costs_behind(costs, taken):
    """Returns what the places that are left bring, once one of them is taken."""
    return {place: cost + twos_of(place - taken) for place, cost in costs.items() if place != taken}


def ordered(places):
    """Returns the good order that begins with the first place, and its numbers; both empty for no places."""
    order = []
    numbers = []
    costs = costs_at_first(places)
    while costs:
        least = min(costs.values())
        # a dict keeps its order, so the first one of several is the first of the places
        place = [left for left, cost in costs.items() if cost == least][0]
        order.append(place)
        numbers.append(least)
        costs = costs_behind(costs, place)
    return order, numbers


def how_many_items(width, numbers, count):
    """Returns how many of the first numbers, as many as count tells, are below the width."""
    # numbers never fall, so those below the width are the first ones
    return len([number for number in numbers[:count] if number < width])
