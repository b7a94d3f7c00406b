"""Judging any value: nothing is refused here, and the arguments ahead of the value are right already."""

WIDEST = 64


def is_whole(value):
    """Returns whether a value is a whole number."""
    # Python takes True and False for integers; nowhere here is a Boolean a number.
    return isinstance(value, int) and not isinstance(value, bool)


def is_count(value):
    """Returns whether a value is a whole number of at least 0."""
    return is_whole(value) and value >= 0


def is_between(value, low, high):
    """Returns whether a value is a whole number from low to high."""
    return is_whole(value) and low <= value <= high


def fits_width(value):
    """Returns whether a value is a width."""
    return is_between(value, 1, WIDEST)


def fits_word(width, value):
    """Returns whether a value is a word of a width, which may be 0 here: then 0 is the only one."""
    return is_between(value, 0, (1 << width) - 1)


def twos_of(number):
    """Returns the twos of a whole number that is not 0."""
    # a number and its negative have just their lowest figure 1 and the noughts behind it in common
    return (number & -number).bit_length() - 1


def is_one_of(places, value):
    """Returns whether a value is one of the places."""
    return is_whole(value) and value in places


def are_wholes(value):
    """Returns whether a value is a list of whole numbers, perhaps empty."""
    return isinstance(value, list) and all([is_whole(number) for number in value])


def are_words(width, value):
    """Returns whether a value is a list of words of a width, perhaps empty."""
    return isinstance(value, list) and all([fits_word(width, word) for word in value])


def are_numbers_of(bits, value):
    """Returns whether a value is a list of numbers, each of at most as many bits as are told for it."""
    if not isinstance(value, list) or len(value) != len(bits):
        return False
    return all([fits_word(many, number) for many, number in zip(bits, value)])


def climbs(numbers):
    """Returns whether each number is greater than the one ahead of it."""
    return all([numbers[k - 1] < numbers[k] for k in range(1, len(numbers))])


def never_falls(numbers):
    """Returns whether no number is less than the one ahead of it."""
    return all([numbers[k - 1] <= numbers[k] for k in range(1, len(numbers))])


def are_places(width, value):
    """Returns whether a value is a list of places of a width."""
    return are_words(width, value) and len(value) > 0 and climbs(value)


def widths_of(places):
    """Returns the list of all widths of which some places are words."""
    return list(range(max(1, places[-1].bit_length()), WIDEST + 1))


def are_words_at(width, places, value):
    """Returns whether a value is a list with a word of the width for each place."""
    return are_words(width, value) and len(value) == len(places)


def are_some_of(places, value):
    """Returns whether a value is an ascending list, perhaps empty, of some of the places."""
    return are_wholes(value) and climbs(value) and all([place in places for place in value])


def is_known_word(width, places, value):
    """Returns whether a value is a tuple of one of the places and a word of the width."""
    if not isinstance(value, tuple) or len(value) != 2:
        return False
    return is_one_of(places, value[0]) and fits_word(width, value[1])


def are_known(width, places, value):
    """Returns whether a value is a list of known words."""
    if not isinstance(value, list) or not all([is_known_word(width, places, one) for one in value]):
        return False
    return climbs([one[0] for one in value])


def are_prices(places, value):
    """Returns whether a value is a list of as many counts as there are places."""
    return isinstance(value, list) and len(value) == len(places) and all([is_count(price) for price in value])


def are_table(width, rows, columns, value):
    """Returns whether a value is a list with a list for each row of a word of the width for each column."""
    if not isinstance(value, list) or len(value) != len(rows):
        return False
    return all([are_words_at(width, columns, words) for words in value])
