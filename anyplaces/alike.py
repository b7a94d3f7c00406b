"""Places that are alike: those that part in the same way, whatever the halves are called."""

from anyplaces.branches import halves_of, rests_at, shapes_down_to
from anyplaces.demands import need_places, need_width
from anyplaces.values import twos_of


def need_two(width, one, other):
    """Raises InvalidWidth or InvalidPlaces unless these are two lists of places of a width."""
    need_width(width)
    need_places(width, one)
    need_places(width, other)


def same_down_to(deepest, one, other):
    """Returns whether places are alike down to a level."""
    table = {}
    return shapes_down_to(deepest, one, table)[0] == shapes_down_to(deepest, other, table)[0]


def are_alike(width, one, other):
    """Returns whether places are alike."""
    need_two(width, one, other)
    return same_down_to(width, one, other)


def trail_of(shapes, place):
    """Returns the shapes of the branches in which a place lies, from the level 0 on."""
    return tuple([shapes[level][place & ((1 << level) - 1)] for level in range(len(shapes))])


def nearest_of(place, taken):
    """Returns the one of the places taken whose difference to a place has the most twos, and how many."""
    nearest = None
    most = -1
    for other in taken:
        twos = twos_of(place - other)
        if twos > most:
            nearest = other
            most = twos
    return nearest, most


def partner_for(place, fit, exchanged):
    """Returns the first of those that fit a place that has as many twos in its differences as the place has."""
    nearest, most = nearest_of(place, list(exchanged))
    if nearest is None:
        return fit[0]
    # what has as many twos in its difference to the partner of the nearest one has so to all other partners, too
    partner = exchanged[nearest]
    return [theirs for theirs in fit if theirs != partner and twos_of(theirs - partner) == most][0]


def exchange(width, one, other):
    """Returns the first exchange of places for others, None if there is none."""
    need_two(width, one, other)
    table = {}
    shapes_of_one = shapes_down_to(width, one, table)
    shapes_of_other = shapes_down_to(width, other, table)
    if shapes_of_one[0] != shapes_of_other[0]:
        return None
    fitting = {}
    for theirs in other:
        fitting.setdefault(trail_of(shapes_of_other, theirs), []).append(theirs)
    exchanged = {}
    for place in one:
        # with equal trails the rest can always be exchanged, too, so the least of these is right
        exchanged[place] = partner_for(place, fitting[trail_of(shapes_of_one, place)], exchanged)
    return [exchanged[place] for place in one]


def parting_level(width, one, other):
    """Returns the first level down to which places are not alike, None if they are alike."""
    need_two(width, one, other)
    if same_down_to(width, one, other):
        return None
    # what is alike down to a level is so down to all levels ahead of it, so halving finds the first one
    least = 0
    most = width
    while least < most:
        level = (least + most) // 2
        if same_down_to(level, one, other):
            least = level + 1
        else:
            most = level
    return least


def how_many_alike(width, places):
    """Returns how many lists of places of the width are alike with these."""
    need_width(width)
    need_places(width, places)
    shapes = shapes_down_to(width, places, {})
    unlike = 0
    for level in range(width):
        for rest in shapes[level]:
            even, odd = halves_of(level, rest, shapes[level + 1])
            if even != odd:
                unlike += 1
    return 1 << unlike


def interleaved(evens, odds):
    """Returns the list of places whose even half and whose odd half are told."""
    return sorted([2 * place for place in evens] + [2 * place + 1 for place in odds])


def first_of_halves(half, other_half):
    """Returns the first list of places alike, from the first lists of its halves."""
    return min(interleaved(half, other_half), interleaved(other_half, half))


def first_alike(width, places):
    """Returns the first list of places of the width that is alike with these."""
    need_width(width)
    need_places(width, places)
    below = {place: [0] for place in places}
    for level in reversed(range(width)):
        now = {}
        for rest in rests_at(level, below):
            now[rest] = first_of_halves(below.get(rest, []), below.get(rest + (1 << level), []))
        below = now
    return below[0]
