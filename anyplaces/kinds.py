"""Words and places: judging them, and the words that polynomials have at places."""

from anyplaces.demands import need_places, need_whole, need_width, need_words
from anyplaces.errors import InvalidItems
from anyplaces.values import are_known, are_places, are_wholes, are_words_at, fits_width, fits_word, twos_of


def is_width(value):
    """Returns whether a value is a width."""
    return fits_width(value)


def is_word(width, value):
    """Returns whether a value is a word of a width."""
    need_width(width)
    return fits_word(width, value)


def is_places(width, value):
    """Returns whether a value is a list of places of a width."""
    need_width(width)
    return are_places(width, value)


def is_words(width, places, value):
    """Returns whether a value is a list with a word of the width for each place."""
    need_width(width)
    need_places(width, places)
    return are_words_at(width, places, value)


def is_known(width, places, value):
    """Returns whether a value is a list of known words."""
    need_width(width)
    need_places(width, places)
    return are_known(width, places, value)


def twos_in(number):
    """Returns how often 2 divides a whole number, None for 0."""
    need_whole(number)
    if number == 0:
        return None
    return twos_of(number)


def need_coefficients(coefficients):
    """Raises InvalidItems unless this is a list of whole numbers."""
    if not are_wholes(coefficients):
        raise InvalidItems(coefficients)


def worth_at(width, coefficients, number):
    """Returns the word of a polynomial at a whole number, all arguments being right."""
    mask = (1 << width) - 1
    worth = 0
    for coefficient in reversed(coefficients):
        worth = (worth * number + coefficient) & mask
    return worth


def word_at(width, coefficients, number):
    """Returns the word that a polynomial has at a whole number."""
    need_width(width)
    need_coefficients(coefficients)
    need_whole(number)
    return worth_at(width, coefficients, number)


def words_at(width, coefficients, places):
    """Returns the words that a polynomial has at places."""
    need_width(width)
    need_coefficients(coefficients)
    need_places(width, places)
    return [worth_at(width, coefficients, place) for place in places]


def parting_places(width, places, words, others):
    """Returns the list of the places at which two lists of words differ."""
    need_width(width)
    need_places(width, places)
    need_words(width, places, words)
    need_words(width, places, others)
    return [place for place, word, other in zip(places, words, others) if word != other]
