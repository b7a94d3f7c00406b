"""Parts of the places whose words tell the whole codeword."""

from anyplaces.bitrows import bits_at_place, packed_rows, reduced_rows
from anyplaces.demands import need_part
from anyplaces.ordering import ordered
from anyplaces.plans import plan_of, product_at
from anyplaces.values import are_some_of


def first_gap(numbers_of_all, numbers):
    """Returns the first k at which a part's number is greater than that of all places, None if none is."""
    for k, number in enumerate(numbers_of_all):
        # behind the last number of a part they are endless
        if k >= len(numbers) or numbers[k] > number:
            return k
    return None


def gap_in(plan, numbers):
    """Returns the least item at which a part's number is greater than that of all places, None if none is."""
    return first_gap(plan.numbers[:plan.many], numbers)


def tells_all(plan, part):
    """Returns whether a part is telling."""
    return gap_in(plan, ordered(part)[1]) is None


def is_base_of(plan, value):
    """Returns whether a value is a telling part with as few places as can be."""
    return are_some_of(plan.code_places, value) and len(value) == plan.many and tells_all(plan, value)


def is_telling(width, places, count, part):
    """Returns whether two codewords with the same words at the part are always the same."""
    plan = plan_of(width, places, count)
    need_part(places, part)
    return tells_all(plan, part)


def hidden_of(plan, part):
    """Returns a codeword that has not only 0, but only 0 at a part; None if the part is telling."""
    order, numbers = ordered(part)
    k = gap_in(plan, numbers)
    if k is None:
        return None
    number = min(plan.code_width, numbers[k]) if k < len(numbers) else plan.code_width
    mask = (1 << plan.code_width) - 1
    return [(product_at(order[:k], place) << (plan.code_width - number)) & mask for place in plan.code_places]


def hidden(width, places, count, part):
    """Returns a codeword that has not only 0, but only 0 at the part; None if the part is telling."""
    plan = plan_of(width, places, count)
    need_part(places, part)
    return hidden_of(plan, part)


def bit_rows(width, places, count):
    """Returns for each item the list of its bits at the places."""
    plan = plan_of(width, places, count)
    columns = [bits_at_place(plan, place) for place in places]
    return [[column[k] for column in columns] for k in range(plan.many)]


def is_base(width, places, count, value):
    """Returns whether a value is a base."""
    return is_base_of(plan_of(width, places, count), value)


def first_base(width, places, count, part):
    """Returns the first base all of whose places are in a part, None if the part is not telling."""
    plan = plan_of(width, places, count)
    need_part(places, part)
    if not tells_all(plan, part):
        return None
    # the first base takes each place that is still in one base with those taken ahead of it
    reduced = reduced_rows(packed_rows(plan), [places.index(place) for place in part])
    return [places[at] for at in reduced]
