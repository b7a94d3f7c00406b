"""Codes within codes: fewer items, given lowest bits, and polynomials at places that lie farther apart."""

from anyplaces.demands import need_places, need_width, need_words
from anyplaces.errors import InvalidNumber, InvalidWords
from anyplaces.plans import Plan, item_bits, plan_of, read_off, words_of_items
from anyplaces.polynomials import multiplied_out
from anyplaces.values import are_words_at, is_between


def least_count(width, places, words):
    """Returns the least count of a code that has words among its codewords, None if no code has."""
    need_width(width)
    need_places(width, places)
    need_words(width, places, words)
    items = read_off(Plan(width, places, len(places)), words)[0]
    if items is None:
        return None
    return max([k + 1 for k, item in enumerate(items) if item], default=0)


def need_bits(least, width, bits):
    """Raises InvalidNumber unless this is a whole number from the least one to the width."""
    if not is_between(bits, least, width):
        raise InvalidNumber(bits)


def items_above(width, places, count, bits, words):
    """Returns the least items of codewords that have words as their lowest bits, None if none has.

    These are all items that tell anything of the lowest bits; further ones may be anything.
    """
    need_bits(1, width, bits)
    need_words(bits, places, words)
    return read_off(Plan(bits, places, count), words)[0]


def how_many_above(width, places, count, bits, words):
    """Returns how many codewords have words as their lowest bits."""
    plan = plan_of(width, places, count)
    if items_above(width, places, count, bits, words) is None:
        return 0
    return 1 << sum([min(many, width - bits) for many in item_bits(plan)])


def first_above(width, places, count, bits, words):
    """Returns the first codeword, by its items list, that has words as its lowest bits, None if there is none."""
    plan = plan_of(width, places, count)
    items = items_above(width, places, count, bits, words)
    return None if items is None else words_of_items(plan, items)


def stretched_coefficients(width, places, count, bits, words):
    """Returns the coefficients of a polynomial with the words at the places times 2 ** bits, None if none has them."""
    plan = plan_of(width, places, count)
    need_bits(0, width, bits)
    items = read_off(plan, words)[0] if are_words_at(width, places, words) else None
    if items is None:
        raise InvalidWords(words)
    if any([item & ((1 << bits * k) - 1) for k, item in enumerate(items)]):
        return None
    return multiplied_out([place << bits for place in plan.order], [item >> bits * k for k, item in enumerate(items)])


def how_many_stretched(width, places, count, bits):
    """Returns how many codewords are those of polynomials at the places times 2 ** bits, too."""
    plan = plan_of(width, places, count)
    need_bits(0, width, bits)
    return 1 << sum([max(0, many - bits * k) for k, many in enumerate(item_bits(plan))])
