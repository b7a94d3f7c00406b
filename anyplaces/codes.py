"""Codewords, their items lists, and polynomials that have them."""

from anyplaces.demands import need_words
from anyplaces.errors import InvalidItems
from anyplaces.plans import item_bits, plan_of, read_off, words_of_items
from anyplaces.values import are_words_at, fits_word


def are_items(plan, value):
    """Returns whether a value is an items list of a code."""
    bits = item_bits(plan)
    if not isinstance(value, list) or len(value) != len(bits):
        return False
    return all([fits_word(many, item) for many, item in zip(bits, value)])


def need_items(plan, items):
    """Raises InvalidItems unless this is an items list of the code."""
    if not are_items(plan, items):
        raise InvalidItems(items)


def codeword(width, places, count, items):
    """Returns the codeword of an items list."""
    plan = plan_of(width, places, count)
    need_items(plan, items)
    return words_of_items(plan, items)


def items_of(width, places, count, words):
    """Returns the items list of a codeword, None if the words are none."""
    plan = plan_of(width, places, count)
    need_words(width, places, words)
    return read_off(plan, words)[0]


def is_codeword(width, places, count, value):
    """Returns whether a value is a codeword."""
    plan = plan_of(width, places, count)
    return are_words_at(width, places, value) and read_off(plan, value)[0] is not None


def misfit(width, places, count, words):
    """Returns the first place in the good order at which words are no longer those of a codeword, or None."""
    plan = plan_of(width, places, count)
    need_words(width, places, words)
    return read_off(plan, words)[1]


def times_less(coefficients, place):
    """Returns the coefficients of a polynomial times the difference of X and a place."""
    raised = [0] + coefficients
    lowered = [-place * coefficient for coefficient in coefficients] + [0]
    return [up + down for up, down in zip(raised, lowered)]


def without_last_zeros(coefficients):
    """Returns the coefficients up to the last one that is not 0."""
    many = len(coefficients)
    while many > 0 and coefficients[many - 1] == 0:
        many -= 1
    return coefficients[:many]


def coefficients_of(width, places, count, items):
    """Returns the coefficients of the sum that an items list stands for, not taken by any power of 2."""
    plan = plan_of(width, places, count)
    need_items(plan, items)
    coefficients = [0]
    for k in reversed(range(plan.many)):
        coefficients = times_less(coefficients, plan.order[k])
        coefficients[0] += items[k]
    return without_last_zeros(coefficients)
