"""Places that are alike: those that part in the same way, whatever the halves are called."""

from anyplaces.branches import halves_of, rests_at, shapes_down_to
from anyplaces.demands import need_places, need_width
from anyplaces.kinds import twos_in


def need_two(width, one, other):
    """Raises InvalidWidth or InvalidPlaces unless these are two lists of places of a width."""
    need_width(width)
    need_places(width, one)
    need_places(width, other)


def same_down_to(deepest, one, other):
    """Returns whether places are alike down to a level."""
    table = {}
    return shapes_down_to(deepest, one, table)[0] == shapes_down_to(deepest, other, table)[0]


def are_alike(width, one, other):
    """Returns whether places are alike."""
    need_two(width, one, other)
    return same_down_to(width, one, other)


def trails(width, places, table):
    """Returns for each place the shapes of the branches in which it lies, from the level 0 on."""
    shapes = shapes_down_to(width, places, table)
    return {place: [shapes[level][place & ((1 << level) - 1)] for level in range(width + 1)] for place in places}


def keeps_twos(place, partner, exchanged):
    """Returns whether a partner of a place has as many twos in its differences to the partners so far."""
    # a partner that is taken has no number of twos in its difference to itself, so it is not taken again
    return all([twos_in(place - ahead) == twos_in(partner - theirs) for ahead, theirs in exchanged.items()])


def exchange(width, one, other):
    """Returns the first exchange of places for others, None if there is none."""
    need_two(width, one, other)
    if not same_down_to(width, one, other):
        return None
    table = {}
    trail_of_one = trails(width, one, table)
    trail_of_other = trails(width, other, table)
    exchanged = {}
    for place in one:
        fit = [theirs for theirs in other if trail_of_one[place] == trail_of_other[theirs]]
        # with equal trails the rest can always be exchanged, too, so the least of these is right
        exchanged[place] = [theirs for theirs in fit if keeps_twos(place, theirs, exchanged)][0]
    return [exchanged[place] for place in one]


def parting_level(width, one, other):
    """Returns the first level down to which places are not alike, None if they are alike."""
    need_two(width, one, other)
    for level in range(width + 1):
        if not same_down_to(level, one, other):
            return level
    return None


def how_many_alike(width, places):
    """Returns how many lists of places of the width are alike with these."""
    need_width(width)
    need_places(width, places)
    shapes = shapes_down_to(width, places, {})
    unlike = 0
    for level in range(width):
        for rest in shapes[level]:
            even, odd = halves_of(level, rest, shapes[level + 1])
            if even != odd:
                unlike += 1
    return 1 << unlike


def interleaved(evens, odds):
    """Returns the list of places whose even half and whose odd half are told."""
    return sorted([2 * place for place in evens] + [2 * place + 1 for place in odds])


def first_of_halves(half, other_half):
    """Returns the first list of places alike, from the first lists of its halves."""
    return min(interleaved(half, other_half), interleaved(other_half, half))


def first_alike(width, places):
    """Returns the first list of places of the width that is alike with these."""
    need_width(width)
    need_places(width, places)
    below = {place: [0] for place in places}
    for level in reversed(range(width)):
        now = {}
        for rest in rests_at(level, below):
            now[rest] = first_of_halves(below.get(rest, []), below.get(rest + (1 << level), []))
        below = now
    return below[0]
