"""What the document tells, counted and listed as plainly as can be, to check the program by."""

from itertools import combinations, permutations, product


def twos(number):
    number = abs(number)
    many = 0
    while number % 2 == 0:
        number //= 2
        many += 1
    return many


def lists_of_places(width, sizes):
    """All lists of places of a width with these sizes."""
    return [list(places) for many in sizes for places in combinations(range(2 ** width), many)]


def parts_of(places):
    return [list(part) for many in range(len(places) + 1) for part in combinations(places, many)]


def brought(place, taken):
    """How many twos the differences of a place to those taken have together."""
    return sum(twos(place - other) for other in taken)


def follows_rule(order):
    """Whether each place of an order brings the fewest twos of those that are left."""
    return all(
        brought(order[k], order[:k]) <= min(brought(other, order[:k]) for other in order[k:])
        for k in range(len(order))
    )


def good_orders(places):
    return [list(order) for order in permutations(places) if follows_rule(order)]


def begun_with(first, places):
    """Numbers of a good order that begins with a place, the last one of several being taken."""
    order = [first]
    numbers = [0]
    left = [place for place in places if place != first]
    while left:
        least = min(brought(place, order) for place in left)
        place = [other for other in left if brought(other, order) == least][-1]
        numbers.append(least)
        order.append(place)
        left.remove(place)
    return numbers


def numbers_by_rests(places):
    """The numbers told by the even and the odd places."""
    if len(places) == 1:
        return [0]
    halves = [[place // 2 for place in places if place % 2 == bit] for bit in (0, 1)]
    raised = [number + k for half in halves if half for k, number in enumerate(numbers_by_rests(half))]
    return sorted(raised)


def all_twos(places):
    return sum(twos(one - other) for one, other in combinations(places, 2))


def first_uneven(width, places):
    for level in range(width):
        for rest in range(2 ** level):
            lot = [place for place in places if place % 2 ** level == rest]
            odd = [place for place in lot if place % 2 ** (level + 1) != rest]
            if abs(len(lot) - 2 * len(odd)) > 1:
                return (level, rest)
    return None


def exchanges(one, other):
    """All exchanges, in order."""
    if len(one) != len(other):
        return []
    pairs = list(combinations(range(len(one)), 2))
    wanted = [twos(one[j] - one[k]) for j, k in pairs]
    return [
        list(theirs) for theirs in permutations(other)
        if [twos(theirs[j] - theirs[k]) for j, k in pairs] == wanted
    ]


def alike_down_to(level, one, other):
    if len(one) != len(other):
        return False
    pairs = list(combinations(range(len(one)), 2))

    def together(places):
        return [
            [(places[j] - places[k]) % 2 ** lower == 0 for j, k in pairs] for lower in range(level + 1)
        ]

    wanted = together(one)
    return any(together(theirs) == wanted for theirs in permutations(other))


def form_of(level, coloured):
    """The same for two dicts of places and their colours exactly if they can be exchanged down to a level."""
    if level == 0 or len(coloured) < 2:
        return "(" + " ".join(sorted(str(colour) for colour in coloured.values())) + ")"
    halves = [{place // 2: colour for place, colour in coloured.items() if place % 2 == bit} for bit in (0, 1)]
    return "(" + " ".join(sorted(form_of(level - 1, half) for half in halves)) + ")"


def first_arrangement(level, one, other):
    """The first list of the others that part as the places do, in their order, down to a level; None if none does."""
    ours, theirs = dict.fromkeys(one, 0), dict.fromkeys(other, 0)
    if form_of(level, ours) != form_of(level, theirs):
        return None
    for turn, place in enumerate(one, 1):
        # what belongs to one another has a colour of its own
        ours[place] = turn
        wanted = form_of(level, ours)
        left = [partner for partner in other if theirs[partner] == 0]
        theirs[next(one for one in left if form_of(level, {**theirs, one: turn}) == wanted)] = turn
    return sorted(other, key=theirs.get)


def product_of(taken, number):
    result = 1
    for place in taken:
        result *= number - place
    return result


def worth(width, coefficients, number):
    return sum(a * number ** i for i, a in enumerate(coefficients)) % 2 ** width


def all_codewords(width, places, count):
    """The words that all polynomials with at most count coefficients have, each list once, as tuples."""
    # more coefficients than places give nothing new
    many = min(count, len(places))
    return {
        tuple(worth(width, coefficients, place) for place in places)
        for coefficients in product(range(2 ** width), repeat=many)
    }


def all_words(width, places):
    return product(range(2 ** width), repeat=len(places))


def best_parts(places, j):
    """All parts of j places whose differences have as few twos as can be, in order."""
    parts = [list(part) for part in combinations(places, j)]
    least = min([all_twos(part) for part in parts], default=0)
    return [part for part in parts if all_twos(part) == least]


def words_at_part(words, places, part):
    return tuple(words[places.index(place)] for place in part)


def with_known(listed, places, known):
    """All codewords of a list that have the known words, in order."""
    told = tuple(word for _, word in known)
    part = [place for place, _ in known]
    return sorted(words for words in listed if words_at_part(words, places, part) == told)


def alike_bits(width, words):
    """How many of the lowest bits are the same in all of the words."""
    return max(j for j in range(width + 1) if len({word % 2 ** j for word in words}) <= 1)


def unlike(words, others):
    return len([word for word, other in zip(words, others) if word != other])


def least_unlike(listed):
    """The least number of places at which two unlike ones of a list differ, None for one alone."""
    return min([unlike(one, other) for one, other in combinations(listed, 2)], default=None)
