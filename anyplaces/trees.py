"""The tree of places: branches that part into halves, and how the best parts of a branch lie in its halves."""

from anyplaces.values import twos_of


class Branch:
    """Places that leave one rest by a power of 2: one place alone, or an even and an odd half that part at a level.

    The numbers are those of its places, their differences being divided by 2 ** level. For each j the ways are
    all i such that a best part of j places has i of them in the even half.
    """

    def __init__(self, place, level, evens, odds, numbers, ways):
        self.place = place
        self.level = level
        self.evens = evens
        self.odds = odds
        self.numbers = numbers
        self.ways = ways


def ways_to_split(evens, odds):
    """Returns the ways for each j, from the ascending numbers of both halves, both reckoned from one level on."""
    ways = []
    i = 0
    for j in range(len(evens) + len(odds) + 1):
        odd = j - i
        if i > 0 and odd < len(odds) and evens[i - 1] == odds[odd]:
            # the last even place that is taken costs as much as the next odd one
            ways.append([i - 1, i])
        else:
            ways.append([i])
        if i < len(evens) and (odd == len(odds) or evens[i] <= odds[odd]):
            i += 1
    return ways


def first_parting(places):
    """Returns the level at which the first places part, that is their lowest bit that is not always the same."""
    unlike = 0
    for place in places:
        unlike = unlike | (place ^ places[0])
    return twos_of(unlike)


def numbers_from(branch, level):
    """Returns the numbers of a branch, reckoned from a level on that is not above its own."""
    # one place alone has the number 0, from whichever level on
    steps = branch.level - level
    return [number + steps * k for k, number in enumerate(branch.numbers)]


def branch_of(places):
    """Returns the branch of places, of which there is at least one."""
    if len(places) == 1:
        return Branch(places[0], 0, None, None, [0], [])
    level = first_parting(places)
    evens = branch_of([place for place in places if not place >> level & 1])
    odds = branch_of([place for place in places if place >> level & 1])
    low = numbers_from(evens, level)
    high = numbers_from(odds, level)
    return Branch(None, level, evens, odds, sorted(low + high), ways_to_split(low, high))


def for_best_parts(branch, wanted, of_place, of_halves):
    """Returns a dict: for each wanted j, what is to be told of the best parts of j places of a branch.

    of_place(place) tells a dict for j 0 and 1 of one place alone; of_halves(evens, odds, j, ways) tells it for
    j places from the dicts of both halves.
    """
    if branch.evens is None:
        return of_place(branch.place)
    low = sorted({i for j in wanted for i in branch.ways[j]})
    high = sorted({j - i for j in wanted for i in branch.ways[j]})
    evens = for_best_parts(branch.evens, low, of_place, of_halves)
    odds = for_best_parts(branch.odds, high, of_place, of_halves)
    return {j: of_halves(evens, odds, j, branch.ways[j]) for j in wanted}
