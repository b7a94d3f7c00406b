"""The bits of the items at the places, in rows, and sums by 2 of these rows."""


def bits_at_place(plan, place):
    """Returns the list of the bits that the items have at a place."""
    bits = []
    product = 1
    for k in range(plan.many):
        bits.append(product >> plan.numbers[k] & 1)
        product = product * (place - plan.order[k])
    return bits


def packed_rows(plan):
    """Returns for each item the number whose figures, in twos, are its bits at the places, the lowest one first."""
    rows = [0] * plan.many
    for at, place in enumerate(plan.code_places):
        for k, bit in enumerate(bits_at_place(plan, place)):
            rows[k] += bit << at
    return rows


def reduced_rows(rows, turns):
    """Returns a dict of as many sums of rows, each of them by the one place at which it alone is 1.

    Places are told by their numbers. Of those in turns, in this order, each one is taken that is still in one base
    with those taken ahead of it; the rows must not be sums of one another.
    """
    left = list(rows)
    reduced = {}
    for at in turns:
        found = [row for row in left if row >> at & 1]
        if not found:
            continue
        pivot = found[0]
        summed = [row ^ pivot if row >> at & 1 else row for row in left]
        # only the pivot itself is nothing now
        left = [row for row in summed if row]
        reduced = {taken: row ^ pivot if row >> at & 1 else row for taken, row in reduced.items()}
        reduced[at] = pivot
    return reduced
