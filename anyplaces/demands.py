"""Refusing wrong arguments, each by the error of its kind."""

from anyplaces.errors import InvalidKnown, InvalidNumber, InvalidPlaces, InvalidWidth, InvalidWords
from anyplaces.values import are_known, are_places, are_some_of, are_words_at, fits_width, is_count, is_one_of, is_whole


def need_width(width):
    """Raises InvalidWidth unless this is a width."""
    if not fits_width(width):
        raise InvalidWidth(width)


def need_places(width, places):
    """Raises InvalidPlaces unless these are places of the width."""
    if not are_places(width, places):
        raise InvalidPlaces(places)


def need_part(places, part):
    """Raises InvalidPlaces unless this is an ascending list, perhaps empty, of some of the places."""
    if not are_some_of(places, part):
        raise InvalidPlaces(part)


def need_whole(number):
    """Raises InvalidNumber unless this is a whole number."""
    if not is_whole(number):
        raise InvalidNumber(number)


def need_count(count):
    """Raises InvalidNumber unless this is a count."""
    if not is_count(count):
        raise InvalidNumber(count)


def need_words(width, places, words):
    """Raises InvalidWords unless these are words of the width at the places."""
    if not are_words_at(width, places, words):
        raise InvalidWords(words)


def need_known(width, places, known):
    """Raises InvalidKnown unless these are known words of the places."""
    if not are_known(width, places, known):
        raise InvalidKnown(known)


def need_place(places, place):
    """Raises InvalidNumber unless this is one of the places."""
    if not is_one_of(places, place):
        raise InvalidNumber(place)


def need_code(width, places, count):
    """Raises InvalidWidth, InvalidPlaces or InvalidNumber unless these are the three arguments of a code."""
    need_width(width)
    need_places(width, places)
    need_count(count)
