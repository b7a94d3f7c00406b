"""Codewords, their items lists, and polynomials that have them."""

from anyplaces.demands import need_words
from anyplaces.errors import InvalidItems
from anyplaces.plans import item_bits, plan_of, read_off, words_of_items
from anyplaces.polynomials import multiplied_out
from anyplaces.values import are_numbers_of, are_words_at


def need_items(plan, items):
    """Raises InvalidItems unless this is an items list of the code."""
    if not are_numbers_of(item_bits(plan), items):
        raise InvalidItems(items)


def codeword(width, places, count, items):
    """Returns the codeword of an items list."""
    plan = plan_of(width, places, count)
    need_items(plan, items)
    return words_of_items(plan, items)


def items_of(width, places, count, words):
    """Returns the items list of a codeword, None if the words are none."""
    plan = plan_of(width, places, count)
    need_words(width, places, words)
    return read_off(plan, words)[0]


def is_codeword(width, places, count, value):
    """Returns whether a value is a codeword."""
    plan = plan_of(width, places, count)
    return are_words_at(width, places, value) and read_off(plan, value)[0] is not None


def misfit(width, places, count, words):
    """Returns the first place in the good order at which words are no longer those of a codeword, or None."""
    plan = plan_of(width, places, count)
    need_words(width, places, words)
    return read_off(plan, words)[1]


def coefficients_of(width, places, count, items):
    """Returns the coefficients of the sum that an items list stands for, not taken by any power of 2."""
    plan = plan_of(width, places, count)
    need_items(plan, items)
    return multiplied_out(plan.order, items)
