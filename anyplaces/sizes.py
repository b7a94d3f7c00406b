"""How many codewords a code has, their numbers, and what other widths make of it."""

from anyplaces.demands import need_count, need_places, need_width
from anyplaces.errors import InvalidNumber, InvalidWords
from anyplaces.ordering import how_many_items, ordered
from anyplaces.plans import item_bits, plan_of, read_off, words_of_items
from anyplaces.values import WIDEST, are_words_at, is_between, widths_of


def item_count(width, places, count):
    """Returns how many items the codewords have."""
    return plan_of(width, places, count).many


def how_many_codewords(width, places, count):
    """Returns the number of codewords."""
    return 1 << sum(item_bits(plan_of(width, places, count)))


def full_count(width, places):
    """Returns the least count from which on a greater one gives the same code."""
    need_width(width)
    need_places(width, places)
    return how_many_items(width, ordered(places)[1], len(places))


def codeword_number(width, places, count, words):
    """Returns how many codewords are ahead of one, in the order of their items lists."""
    plan = plan_of(width, places, count)
    if not are_words_at(width, places, words):
        raise InvalidWords(words)
    items = read_off(plan, words)[0]
    if items is None:
        raise InvalidWords(words)
    number = 0
    for bits, item in zip(item_bits(plan), items):
        number = (number << bits) + item
    return number


def codeword_at(width, places, count, number):
    """Returns the codeword that has so many ahead of it."""
    plan = plan_of(width, places, count)
    bits_of_items = item_bits(plan)
    if not is_between(number, 0, (1 << sum(bits_of_items)) - 1):
        raise InvalidNumber(number)
    items = []
    left = number
    for bits in reversed(bits_of_items):
        items.append(left & ((1 << bits) - 1))
        left = left >> bits
    items.reverse()
    return words_of_items(plan, items)


def item_widths(places, count):
    """Returns the least width from which on each item is one."""
    need_places(WIDEST, places)
    need_count(count)
    return [number + 1 for number in ordered(places)[1][:count]]


def bits_at(width, numbers):
    """Returns how many bits all items have together, for their numbers."""
    return sum([width - number for number in numbers if number < width])


def width_for(places, count, many):
    """Returns the least width of all places with at least 2 ** many codewords, None if there is none."""
    need_places(WIDEST, places)
    need_count(count)
    need_count(many)
    numbers = ordered(places)[1][:count]
    for width in widths_of(places):
        if bits_at(width, numbers) >= many:
            return width
    return None
