"""Parts of the places whose words tell the whole codeword."""

from anyplaces.demands import need_part
from anyplaces.ordering import ordered
from anyplaces.plans import plan_of, product_at
from anyplaces.values import are_some_of


def first_gap(plan, numbers):
    """Returns the least item at which a part's number is greater than that of all places, None if none is."""
    for k in range(plan.many):
        # behind the last number of a part they are endless
        if k >= len(numbers) or numbers[k] > plan.numbers[k]:
            return k
    return None


def tells_all(plan, part):
    """Returns whether a part is telling."""
    return first_gap(plan, ordered(part)[1]) is None


def is_telling(width, places, count, part):
    """Returns whether two codewords with the same words at the part are always the same."""
    plan = plan_of(width, places, count)
    need_part(places, part)
    return tells_all(plan, part)


def hidden(width, places, count, part):
    """Returns a codeword that has not only 0, but only 0 at the part; None if the part is telling."""
    plan = plan_of(width, places, count)
    need_part(places, part)
    order, numbers = ordered(part)
    k = first_gap(plan, numbers)
    if k is None:
        return None
    number = min(width, numbers[k]) if k < len(numbers) else width
    mask = (1 << width) - 1
    return [(product_at(order[:k], place) << (width - number)) & mask for place in places]


def bits_at_place(plan, place):
    """Returns the list of the bits that the items have at a place."""
    bits = []
    product = 1
    for k in range(plan.many):
        bits.append(product >> plan.numbers[k] & 1)
        product = product * (place - plan.order[k])
    return bits


def bit_rows(width, places, count):
    """Returns for each item the list of its bits at the places."""
    plan = plan_of(width, places, count)
    columns = [bits_at_place(plan, place) for place in places]
    return [[column[k] for column in columns] for k in range(plan.many)]


def is_base(width, places, count, value):
    """Returns whether a value is a telling part with as few places as can be."""
    plan = plan_of(width, places, count)
    return are_some_of(places, value) and len(value) == plan.many and tells_all(plan, value)


def packed(bits):
    """Returns the number that has these bits, the first one highest."""
    number = 0
    for bit in bits:
        number = 2 * number + bit
    return number


def left_over(column, reduced):
    """Returns what is left of a column when it is reduced by earlier ones; 0 if it is a sum of them."""
    left = column
    for other in reduced:
        # each reduced column lacks the highest bits of those ahead of it, so none comes back
        left = min(left, left ^ other)
    return left


def first_base(width, places, count, part):
    """Returns the first base all of whose places are in a part, None if the part is not telling."""
    plan = plan_of(width, places, count)
    need_part(places, part)
    if not tells_all(plan, part):
        return None
    base = []
    reduced = []
    # the first base takes each place whose bits are not a sum of those taken ahead of it
    for place in part:
        left = left_over(packed(bits_at_place(plan, place)), reduced)
        if left:
            base.append(place)
            reduced.append(left)
    return base
