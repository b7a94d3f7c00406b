"""Good orders of places, their numbers, and the branches of the places."""

from anyplaces.demands import need_count, need_places, need_width
from anyplaces.errors import InvalidItems, InvalidNumber
from anyplaces.ordering import costs_at_first, costs_behind, ordered
from anyplaces.values import are_wholes, is_between, never_falls


def good_order(width, places):
    """Returns the good order that begins with the first place, and its numbers."""
    need_width(width)
    need_places(width, places)
    return ordered(places)


def is_good_order(width, places, value):
    """Returns whether a value is a good order of the places."""
    need_width(width)
    need_places(width, places)
    if not are_wholes(value) or sorted(value) != places:
        return False
    costs = costs_at_first(places)
    for place in value:
        if costs[place] > min(costs.values()):
            return False
        costs = costs_behind(costs, place)
    return True


def least_twos(width, places, many):
    """Returns how many twos the differences of many places have, which are chosen to have the fewest."""
    need_width(width)
    need_places(width, places)
    if not is_between(many, 0, len(places)):
        raise InvalidNumber(many)
    return sum(ordered(places)[1][:many])


def half_sizes(places, level):
    """Returns how many places each branch of a level has in its two halves, by the branches' rests."""
    sizes = {}
    for place in places:
        rest = place & ((1 << level) - 1)
        even, odd = sizes.get(rest, (0, 0))
        if place >> level & 1:
            sizes[rest] = (even, odd + 1)
        else:
            sizes[rest] = (even + 1, odd)
    return sizes


def uneven_branch(width, places):
    """Returns level and rest of the first uneven branch, None if there is none."""
    need_width(width)
    need_places(width, places)
    for level in range(width):
        sizes = half_sizes(places, level)
        for rest in sorted(sizes):
            even, odd = sizes[rest]
            if abs(even - odd) > 1:
                return (level, rest)
    return None


def count_even(width, many, counted):
    """Returns how many lists of many words of a width, perhaps 0, have no uneven branch."""
    if many == 0:
        return 1
    if many > 1 << width:
        return 0
    if width == 0:
        return 1
    # the halves of a list have one of two sizes at each level, so few answers serve for all
    if (width, many) not in counted:
        less = many // 2
        both = count_even(width - 1, less, counted) * count_even(width - 1, many - less, counted)
        # of an odd number of places either half may be the larger one
        counted[(width, many)] = 2 * both if many & 1 else both
    return counted[(width, many)]


def how_many_even(width, many):
    """Returns how many lists of many places of a width have no uneven branch."""
    need_width(width)
    need_count(many)
    return count_even(width, many, {})


def ways_to_part(numbers):
    """Returns all ways to part numbers into two lists, each of them ascending."""
    ways = [([], [])]
    for number in sorted(set(numbers)):
        times = numbers.count(number)
        if times > 2:
            return []
        if times == 2:
            ways = [(evens + [number], odds + [number]) for evens, odds in ways]
        else:
            to_evens = [(evens + [number], odds) for evens, odds in ways]
            ways = to_evens + [(evens, odds + [number]) for evens, odds in ways]
    return ways


def lessened(numbers, step):
    """Returns the numbers, the first less 0, the next one less the step, the next one less twice the step."""
    return [number - step * k for k, number in enumerate(numbers)]


def first_halved(width, numbers, found):
    """Returns the first list of words with numbers that begin with 0, 0: some words are even, some odd."""
    best = None
    for evens, odds in ways_to_part(numbers):
        low = first_words(width - 1, lessened(evens, 1), found)
        if low is None:
            continue
        high = first_words(width - 1, lessened(odds, 1), found)
        if high is None:
            continue
        # the first lists of the halves make the first list of this way
        words = sorted([2 * word for word in low] + [2 * word + 1 for word in high])
        if best is None or words < best:
            best = words
    return best


def first_words(width, numbers, found):
    """Returns the first list of words of a width, perhaps 0, that has the numbers, None if there is none."""
    if len(numbers) == 1:
        return [0]
    # all words leave one rest by 2 ** shift, and not by the next power
    shift = numbers[1]
    if shift >= width:
        return None
    left = lessened(numbers, shift)
    if not never_falls(left):
        return None
    key = (width - shift, tuple(left))
    if key not in found:
        found[key] = first_halved(width - shift, left, found)
    if found[key] is None:
        return None
    return [word << shift for word in found[key]]


def are_numbers(value):
    """Returns whether a value is a list, not empty, of counts, never falling, with 0 first."""
    return are_wholes(value) and len(value) > 0 and value[0] == 0 and never_falls(value)


def places_with(width, numbers):
    """Returns the first list of places that has just these numbers, None if there is none."""
    need_width(width)
    if not are_numbers(numbers):
        raise InvalidItems(numbers)
    return first_words(width, numbers, {})
