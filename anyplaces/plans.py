"""What width, places and count fix of a code, and reading words off along the good order."""

from anyplaces.demands import need_code
from anyplaces.ordering import how_many_items, ordered


class Plan:
    """A code: its width, its places in their good order with their numbers, its count, and how many items it has."""

    def __init__(self, width, places, count):
        self.code_width = width
        self.code_places = places
        self.code_count = count
        self.order, self.numbers = ordered(places)
        self.many = how_many_items(width, self.numbers, count)


def plan_of(width, places, count):
    """Returns the plan of a code, whose three arguments are refused in their order."""
    need_code(width, places, count)
    return Plan(width, places, count)


def product_at(taken, number):
    """Returns the product of the differences of a number to all places taken, not by any power of 2."""
    product = 1
    for place in taken:
        product = product * (number - place)
    return product


def item_bits(plan):
    """Returns the list of how many bits each item has."""
    return [plan.code_width - plan.numbers[k] for k in range(plan.many)]


def word_of_items(plan, items, number):
    """Returns the word that the sum of the first items, as many as are told, has at a number."""
    mask = (1 << plan.code_width) - 1
    word = 0
    for k in reversed(range(len(items))):
        word = (word * (number - plan.order[k]) + items[k]) & mask
    return word


def words_of_items(plan, items):
    """Returns the words that the sum of the items has at the places, in their ascending order."""
    return [word_of_items(plan, items, place) for place in plan.code_places]


def inverse_of(odd, bits):
    """Returns the word of so many bits, at most 64, whose product with an odd number leaves 1."""
    mask = (1 << bits) - 1
    inverse = 1
    # each round doubles how many low bits are right, and the first one is right at the beginning
    for _ in range(6):
        inverse = inverse * (2 - odd * inverse) & mask
    return inverse


def item_for(plan, k, lacking):
    """Returns the item k that makes up for what is lacking at its place, perhaps below 0; None if none does."""
    number = plan.numbers[k]
    if lacking & ((1 << number) - 1):
        return None
    bits = plan.code_width - number
    odd = product_at(plan.order[:k], plan.order[k]) >> number
    return (lacking >> number) * inverse_of(odd, bits) & ((1 << bits) - 1)


def read_off(plan, words):
    """Returns a tuple of the items list of words and the first place that no codeword goes with; one is None."""
    told = dict(zip(plan.code_places, words))
    items = []
    for k, place in enumerate(plan.order):
        lacking = told[place] - word_of_items(plan, items, place)
        if k < plan.many:
            item = item_for(plan, k, lacking)
            if item is None:
                return None, place
            items.append(item)
        elif lacking:
            return None, place
    return items, None
