"""Codewords that have known words: whether there are any, how many, and which one has a number."""

from anyplaces.demands import need_code, need_count, need_known, need_words
from anyplaces.errors import InvalidNumber
from anyplaces.plans import plan_of
from anyplaces.reading import Reading, ahead_of, bits_left, fit_with, fitting_reading


def fits(width, places, count, known):
    """Returns whether a codeword has the known words."""
    need_code(width, places, count)
    need_known(width, places, known)
    return Reading(width, count, dict(known)).found is not None


def how_many_fit(width, places, count, known):
    """Returns how many codewords have the known words."""
    plan = plan_of(width, places, count)
    need_known(width, places, known)
    reading = Reading(width, count, dict(known))
    if reading.found is None:
        return 0
    return 1 << bits_left(plan, reading.plan)


def fit_numbered(width, places, count, known, number):
    """Returns the codeword with the known words that has so many such codewords ahead of it."""
    plan = plan_of(width, places, count)
    need_known(width, places, known)
    need_count(number)
    reading = fitting_reading(plan, known)
    if number >= 1 << bits_left(plan, reading.plan):
        raise InvalidNumber(number)
    return fit_with(plan, known, number)


def how_many_ahead(width, places, count, known, words):
    """Returns how many codewords with the known words are ahead of a list of words."""
    plan = plan_of(width, places, count)
    need_known(width, places, known)
    need_words(width, places, words)
    if Reading(width, count, dict(known)).found is None:
        return 0
    return ahead_of(plan, known, words)
