"""Lines: a code and known words of it, written in one line."""

from anyplaces.demands import need_code, need_known
from anyplaces.errors import InvalidLine
from anyplaces.values import are_places, fits_width, fits_word

LOST = "-"


def line_of(width, places, count, known):
    """Returns the line of a code and known words of it."""
    need_code(width, places, count)
    need_known(width, places, known)
    told = dict(known)
    words = [str(told[place]) if place in told else LOST for place in places]
    return str(width) + "@" + ",".join([str(place) for place in places]) + "/" + str(count) + ":" + " ".join(words)


def number_in(text):
    """Returns the number that is written in figures, None unless a text is how a number is written."""
    if text == "" or (text[0] == "0" and text != "0"):
        return None
    number = 0
    for sign in text:
        # other signs than these ten may be figures, too, in Python's eyes
        figure = "0123456789".find(sign)
        if figure < 0:
            return None
        number = 10 * number + figure
    return number


def numbers_in(text, sign):
    """Returns the list of what number_in tells of the parts of a text between which a sign stands."""
    return [number_in(part) for part in text.split(sign)]


def are_words_or_lost(width, places, parts):
    """Returns whether parts of a line are a word, or the sign of a lost one, for each place."""
    return len(parts) == len(places) and all([part == LOST or fits_word(width, number_in(part)) for part in parts])


def read_line(line):
    """Returns the tuple of width, places, count and known words that has a text as its line, None if none has."""
    width_part, _, behind_width = line.partition("@")
    places_part, _, behind_places = behind_width.partition("/")
    count_part, _, words_part = behind_places.partition(":")
    width = number_in(width_part)
    places = numbers_in(places_part, ",")
    count = number_in(count_part)
    # what lacks one of the signs lacks what stands behind it, too
    if not fits_width(width) or not are_places(width, places) or count is None:
        return None
    words = words_part.split(" ")
    if not are_words_or_lost(width, places, words):
        return None
    return width, places, count, [(place, number_in(word)) for place, word in zip(places, words) if word != LOST]


def of_line(line):
    """Returns the tuple of width, places, count and known words that has a line."""
    told = read_line(line) if isinstance(line, str) else None
    if told is None:
        raise InvalidLine(line)
    return told
