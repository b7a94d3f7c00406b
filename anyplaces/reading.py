"""What words at some places tell of the words at others."""

from anyplaces.errors import Unfit
from anyplaces.plans import Plan, item_bits, read_off, word_of_items
from anyplaces.values import twos_of


class Reading:
    """Words at some places: the plan of these places alone, and the items that the words have there.

    There are no items if no codeword has the words; then misfit is the first place that shows it.
    """

    def __init__(self, width, count, told):
        self.plan = Plan(width, sorted(told), count)
        self.found, self.misfit = read_off(self.plan, [told[place] for place in self.plan.code_places])


def fitting_reading(plan, known):
    """Returns the reading of known words of a code; raises Unfit if no codeword has them."""
    reading = Reading(plan.code_width, plan.code_count, dict(known))
    if reading.found is None:
        raise Unfit(reading.misfit)
    return reading


def bits_left(plan, asked_plan):
    """Returns how many bits are free in codewords, once the words at the places of another plan are told."""
    return sum(item_bits(plan)) - sum(item_bits(asked_plan))


def told_at(plan, place):
    """Returns how many of the lowest bits of the word at any place the words at the places of a plan tell."""
    told = plan.code_width
    twos = 0
    for number, other in list(zip(plan.numbers, plan.order))[:plan.code_count]:
        told = min(told, twos + max(0, plan.code_width - number))
        if other == place:
            # all further products are 0 there
            return told
        twos += twos_of(place - other)
    if len(plan.order) < plan.code_count:
        told = min(told, twos)
    return told


def possible_at(reading, place):
    """Returns the least word that can stand at a place, and how many of its lowest bits are told."""
    bits = told_at(reading.plan, place)
    word = word_of_items(reading.plan, reading.found, place)
    return word & ((1 << bits) - 1), bits


def words_from(reading, places):
    """Returns the words at places of a codeword with the words that were read; if these are telling, the only one."""
    return [word_of_items(reading.plan, reading.found, place) for place in places]


def fit_with(plan, known, number):
    """Returns the codeword with known words, which fit, that has so many such codewords ahead of it."""
    told = dict(known)
    reading = fitting_reading(plan, known)
    left = bits_left(plan, reading.plan)
    for place in plan.code_places:
        word, bits = possible_at(reading, place)
        free = plan.code_width - bits
        if free > 0:
            left -= free
            told[place] = word + ((number >> left & ((1 << free) - 1)) << bits)
            reading = Reading(plan.code_width, plan.code_count, told)
    return words_from(reading, plan.code_places)


def ahead_of(plan, known, words):
    """Returns how many codewords with known words, which fit, are ahead of a list of words."""
    told = dict(known)
    reading = fitting_reading(plan, known)
    ahead = 0
    left = bits_left(plan, reading.plan)
    for place, word in zip(plan.code_places, words):
        least, bits = possible_at(reading, place)
        free = plan.code_width - bits
        step = 1 << bits
        left -= free
        # the least word and so many more ones, each a step further, are below the word
        ahead += ((word - least + step - 1) >> bits) << left
        if (word - least) & (step - 1):
            return ahead
        if free > 0:
            told[place] = word
            reading = Reading(plan.code_width, plan.code_count, told)
    return ahead
