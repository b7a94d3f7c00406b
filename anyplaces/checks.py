"""Checks: factors with which the words of every codeword add up to 0, and what they tell of words that are none."""

from anyplaces.demands import need_words
from anyplaces.errors import InvalidItems, InvalidWords
from anyplaces.plans import item_bits, item_for, plan_of
from anyplaces.values import are_numbers_of, are_words_at


def in_good_order(plan, words):
    """Returns words, which stand in the order of the places, in the good order of these."""
    told = dict(zip(plan.code_places, words))
    return [told[place] for place in plan.order]


def in_order_of_places(plan, words):
    """Returns words, which stand in the good order of the places, in the order of these."""
    told = dict(zip(plan.order, words))
    return [told[place] for place in plan.code_places]


def product_rows(plan):
    """Returns for each item the list of the words that its product has at the places, in their good order."""
    mask = (1 << plan.code_width) - 1
    rows = []
    row = [1] * len(plan.order)
    for k in range(plan.many):
        rows.append(row)
        row = [word * (place - plan.order[k]) & mask for place, word in zip(plan.order, row)]
    return rows


def added_up(plan, words, factors):
    """Returns the word that words, each times its factor, add up to."""
    return sum([word * factor for word, factor in zip(words, factors)]) & ((1 << plan.code_width) - 1)


def is_check_of(plan, value):
    """Returns whether a value is a check."""
    if not are_words_at(plan.code_width, plan.code_places, value):
        return False
    factors = in_good_order(plan, value)
    return all([added_up(plan, row, factors) == 0 for row in product_rows(plan)])


def is_check(width, places, count, value):
    """Returns whether a value is a check: with its factors the words of every codeword add up to 0."""
    return is_check_of(plan_of(width, places, count), value)


def how_many_checks(width, places, count):
    """Returns how many checks there are."""
    plan = plan_of(width, places, count)
    return 1 << width * len(places) - sum(item_bits(plan))


def step_bits(plan):
    """Returns the list, in the good order, of how often 2 divides the step of each place."""
    return item_bits(plan) + [0] * (len(plan.order) - plan.many)


def check_at(plan, rows, k):
    """Returns the check of the triangle that has its step at the place k of the good order, and 0 behind it."""
    factors = [0] * len(plan.order)
    factors[k] = (1 << step_bits(plan)[k]) & ((1 << plan.code_width) - 1)
    # the product of an item is 0 ahead of its own place, so the last item tells the first factor, and so on
    for j in reversed(range(min(k, plan.many))):
        factors[j] = item_for(plan, j, -added_up(plan, rows[j], factors))
    return factors


def triangle_of(plan):
    """Returns the checks of the triangle, and the factors of each of them, in the good order."""
    rows = product_rows(plan)
    return [check_at(plan, rows, k) for k in range(len(plan.order))]


def triangle(width, places, count):
    """Returns the checks of the triangle in the good order, their factors in the order of the places."""
    plan = plan_of(width, places, count)
    return [in_order_of_places(plan, factors) for factors in triangle_of(plan)]


def less_times(plan, factors, times, others):
    """Returns the factors of a check, less those of another one so many times."""
    mask = (1 << plan.code_width) - 1
    return [factor - times * other & mask for factor, other in zip(factors, others)]


def check_parts(width, places, count, check):
    """Returns how many times, in the good order, each check of the triangle is taken for a check."""
    plan = plan_of(width, places, count)
    if not is_check_of(plan, check):
        raise InvalidWords(check)
    left = in_good_order(plan, check)
    rows = triangle_of(plan)
    bits = step_bits(plan)
    parts = [0] * len(places)
    for k in reversed(range(len(places))):
        # what is taken for the places behind is gone already, so here only this check counts
        parts[k] = left[k] >> bits[k]
        left = less_times(plan, left, parts[k], rows[k])
    return parts


def check_of(width, places, count, parts):
    """Returns the check that has each check of the triangle so many times."""
    plan = plan_of(width, places, count)
    if not are_numbers_of([width - bits for bits in step_bits(plan)], parts):
        raise InvalidItems(parts)
    factors = [0] * len(places)
    for part, row in zip(parts, triangle_of(plan)):
        factors = less_times(plan, factors, -part, row)
    return in_order_of_places(plan, factors)


def alarms_of(plan, words):
    """Returns the list of what words add up to with each check of the triangle."""
    told = in_good_order(plan, words)
    return [added_up(plan, told, factors) for factors in triangle_of(plan)]


def alarm(width, places, count, words):
    """Returns the number of the first check of the triangle that words do not meet, and their sum, or None."""
    plan = plan_of(width, places, count)
    need_words(width, places, words)
    for k, word in enumerate(alarms_of(plan, words)):
        if word:
            return (k, word)
    return None


def alarms(width, places, count, words):
    """Returns the list of what words add up to with each check of the triangle, in the good order."""
    plan = plan_of(width, places, count)
    need_words(width, places, words)
    return alarms_of(plan, words)
