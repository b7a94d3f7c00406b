"""Refusing wrong arguments, each by the error of its kind."""

from anyplaces.errors import InvalidNumber, InvalidPlaces, InvalidWidth, InvalidWords
from anyplaces.values import are_places, are_some_of, are_words_at, fits_width, is_count, is_whole


def need_width(width):
    """Raises InvalidWidth unless this is a width."""
    if not fits_width(width):
        raise InvalidWidth(width)


def need_places(width, places):
    """Raises InvalidPlaces unless these are places of the width."""
    if not are_places(width, places):
        raise InvalidPlaces(places)


def need_part(places, part):
    """Raises InvalidPlaces unless this is an ascending list, perhaps empty, of some of the places."""
    if not are_some_of(places, part):
        raise InvalidPlaces(part)


def need_whole(number):
    """Raises InvalidNumber unless this is a whole number."""
    if not is_whole(number):
        raise InvalidNumber(number)


def need_count(count):
    """Raises InvalidNumber unless this is a count."""
    if not is_count(count):
        raise InvalidNumber(count)


def need_words(width, places, words):
    """Raises InvalidWords unless these are words of the width at the places."""
    if not are_words_at(width, places, words):
        raise InvalidWords(words)
