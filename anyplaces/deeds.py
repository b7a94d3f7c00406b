"""Deeds: what a store keeps, which deeds can be done with it, and what is kept behind them."""

from anyplaces.plans import Plan, item_bits, word_of_items, words_of_items
from anyplaces.reading import Reading, bits_left, told_at
from anyplaces.values import are_numbers_of, fits_word, is_count, is_one_of


class Kept:
    """The plan of a code, and a dict of the known words by their places; neither of them ever changes."""

    def __init__(self, plan, words):
        self.plan = plan
        self.words = words


def known_of(kept):
    """Returns the known words."""
    return [(place, kept.words[place]) for place in kept.plan.code_places if place in kept.words]


def reading_of(kept):
    """Returns the reading of the known words."""
    return Reading(kept.plan.code_width, kept.plan.code_count, kept.words)


def how_many_choices(kept):
    """Returns how many codewords have the known words."""
    reading = reading_of(kept)
    return 0 if reading.found is None else 1 << bits_left(kept.plan, reading.plan)


def told_words(kept):
    """Returns a dict of the words that all codewords with the known words have alike, None if there are none such."""
    reading = reading_of(kept)
    if reading.found is None:
        return None
    told = [place for place in kept.plan.code_places if told_at(reading.plan, place) == kept.plan.code_width]
    return {place: word_of_items(reading.plan, reading.found, place) for place in told}


def with_places(kept, places):
    """Returns what is kept with other places: the known words at those that stay."""
    plan = Plan(kept.plan.code_width, places, kept.plan.code_count)
    return Kept(plan, {place: word for place, word in kept.words.items() if place in places})


def can_write(kept, deed):
    """Returns whether the deed has an items list."""
    return are_numbers_of(item_bits(kept.plan), deed[1])


def after_write(kept, deed):
    """Returns what is kept once all words are those of an items list."""
    return Kept(kept.plan, dict(zip(kept.plan.code_places, words_of_items(kept.plan, deed[1]))))


def can_set(kept, deed):
    """Returns whether the deed has one of the places and a word."""
    return is_one_of(kept.plan.code_places, deed[1]) and fits_word(kept.plan.code_width, deed[2])


def after_set(kept, deed):
    """Returns what is kept once a word is known."""
    return Kept(kept.plan, {**kept.words, deed[1]: deed[2]})


def can_lose(kept, deed):
    """Returns whether the deed has the place of a known word."""
    return is_one_of(kept.words, deed[1])


def after_lose(kept, deed):
    """Returns what is kept once a known word is lost."""
    return Kept(kept.plan, {place: word for place, word in kept.words.items() if place != deed[1]})


def can_fill(kept, _):
    """Returns whether a codeword has the known words."""
    return reading_of(kept).found is not None


def after_fill(kept, _):
    """Returns what is kept once all words are known that follow from the known ones."""
    return Kept(kept.plan, told_words(kept))


def can_put(kept, deed):
    """Returns whether the deed has a word that is none of the places."""
    return fits_word(kept.plan.code_width, deed[1]) and deed[1] not in kept.plan.code_places


def after_put(kept, deed):
    """Returns what is kept once a place is put among the others."""
    return with_places(kept, sorted(kept.plan.code_places + [deed[1]]))


def can_take(kept, deed):
    """Returns whether the deed has one of the places, and not the only one."""
    return is_one_of(kept.plan.code_places, deed[1]) and len(kept.plan.code_places) > 1


def after_take(kept, deed):
    """Returns what is kept once a place is taken out."""
    return with_places(kept, [place for place in kept.plan.code_places if place != deed[1]])


def can_count(_, deed):
    """Returns whether the deed has a count."""
    return is_count(deed[1])


def after_count(kept, deed):
    """Returns what is kept once there is another count."""
    return Kept(Plan(kept.plan.code_width, kept.plan.code_places, deed[1]), kept.words)


SIZES = {"write": 2, "set": 3, "lose": 2, "fill": 1, "put": 2, "take": 2, "count": 2}
JUDGES = {
    "write": can_write, "set": can_set, "lose": can_lose, "fill": can_fill, "put": can_put, "take": can_take,
    "count": can_count,
}
DOERS = {
    "write": after_write, "set": after_set, "lose": after_lose, "fill": after_fill, "put": after_put,
    "take": after_take, "count": after_count,
}


def can_be_done(kept, value):
    """Returns whether a value is a deed that can be done now."""
    if not isinstance(value, tuple) or len(value) == 0 or not isinstance(value[0], str):
        return False
    if value[0] not in SIZES or len(value) != SIZES[value[0]]:
        return False
    judge = JUDGES[value[0]]
    return judge(kept, value)


def kept_after(kept, deed):
    """Returns what is kept once a deed is done that can be done."""
    doer = DOERS[deed[0]]
    return doer(kept, deed)


def same_deed(deed):
    """Returns a deed like this one that has no list in common with it."""
    return (deed[0], list(deed[1])) if deed[0] == "write" else deed
