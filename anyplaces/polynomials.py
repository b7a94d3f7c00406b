"""Polynomials as lists of their coefficients, not taken by any power of 2."""


def times_less(coefficients, number):
    """Returns the coefficients of a polynomial times the difference of X and a number."""
    raised = [0] + coefficients
    lowered = [-number * coefficient for coefficient in coefficients] + [0]
    return [up + down for up, down in zip(raised, lowered)]


def without_last_zeros(coefficients):
    """Returns the coefficients up to the last one that is not 0."""
    many = len(coefficients)
    while many > 0 and coefficients[many - 1] == 0:
        many -= 1
    return coefficients[:many]


def multiplied_out(taken, factors):
    """Returns the coefficients, up to the last one that is not 0, of a sum of products.

    Each factor stands ahead of the product of the differences of X and the first numbers taken, one more of these
    for each next factor, none for the first.
    """
    coefficients = [0]
    for k in reversed(range(len(factors))):
        coefficients = times_less(coefficients, taken[k])
        coefficients[0] += factors[k]
    return without_last_zeros(coefficients)
