"""What the tree tells of the best parts of places: how many there are, all of them, and what contains one."""

from anyplaces.trees import for_best_parts


def how_many_parts(branch, j, fixed):
    """Returns how many best parts of j places have the places that are fixed as 1, and not those fixed as 0."""
    def of_place(place):
        if place in fixed:
            return {0: 1 - fixed[place], 1: fixed[place]}
        return {0: 1, 1: 1}

    def of_halves(evens, odds, many, ways):
        return sum([evens[i] * odds[many - i] for i in ways])

    return for_best_parts(branch, [j], of_place, of_halves)[j]


def all_parts(branch, j):
    """Returns the list, in order, of all best parts of j places."""
    def of_place(place):
        return {0: [[]], 1: [[place]]}

    def of_halves(evens, odds, many, ways):
        return [low + high for i in ways for low in evens[i] for high in odds[many - i]]

    return sorted([sorted(part) for part in for_best_parts(branch, [j], of_place, of_halves)[j]])


def counts_with(branch, j, many):
    """Returns the list of how many lots of 0, 1, 2 and so on places contain a best part of j places.

    many is how many places the branch has. The counts of a lot stand in one number, each in so many bits that
    none runs over, so that a product of two such numbers has the counts of both lots together.
    """
    bits = many + 1

    def of_place(place):
        return {0: 1 + (1 << bits), 1: 1 << bits}

    def of_halves(evens, odds, together, ways):
        i = ways[0]
        if len(ways) == 1:
            return evens[i] * odds[together - i]
        lower = evens[i] * odds[together - i]
        upper = evens[i + 1] * odds[together - i - 1]
        # what contains a best part of more places of a half contains one of fewer: so these are in both
        return lower + upper - evens[i + 1] * odds[together - i]

    packed = for_best_parts(branch, [j], of_place, of_halves)[j]
    return [packed >> bits * size & ((1 << bits) - 1) for size in range(many + 1)]


def lost_parts(branch, wanted):
    """Returns a dict: for each wanted j a list of as few places as can be whose loss leaves no best part of j places.

    For j 0 there is none: no loss takes the empty part away.
    """
    def of_place(place):
        return {0: None, 1: [place]}

    def of_halves(evens, odds, many, ways):
        i = ways[0]
        if len(ways) == 1:
            choices = [evens[i], odds[many - i]]
        else:
            # either way can go on as long as one half can give more, and the other one what is left
            choices = [evens[i], odds[many - i - 1], evens[i + 1] + odds[many - i]]
        found = [lost for lost in choices if lost is not None]
        return min(found, key=len) if found else None

    return for_best_parts(branch, wanted, of_place, of_halves)
