"""Wrong values for all kinds of arguments, and checking that each is refused as the document tells."""

from anyplaces.errors import CodeError, InvalidNumber, InvalidWidth, NothingToUndo, Unfit
from anyplaces.store import Store

GREATEST = 10 ** 30 - 1


def nested(kind):
    value = 1
    for _ in range(29):
        value = {0: value} if kind is dict else kind([value])
    return value


# No number, no list of numbers, not even the empty one, and no list of known words is among them.
ODD = [
    None, True, False, "", "3", "0", "0, 1", (), (1,), (0, 1), ((0, 1),), {}, {0: 1}, {"width": 3},
    [None], [True], [False], ["0"], [[0]], [[]], [(0,)], [(0, True)], [(True, 0)], [("0", 0)], [(0, 0, 0)], [[0, 0]],
    [{}], [0, None], [0, "1"], [0, True], [False, 1], [0, [1]], [0, (1,)], [0, 1, {}],
    CodeError(), InvalidWidth(3), Unfit(0), NothingToUndo(), [InvalidNumber(0)], (Unfit([0]),),
    Store(3, [0], 1), [Store(3, [0], 1)], (Store(3, [0], 1), 0), [0, Store(1, [0, 1], 0)],
    nested(list), nested(tuple), nested(dict),
]

NO_WIDTHS = ODD + [[], [3], 0, -1, 65, -3, GREATEST, -GREATEST]
NO_COUNTS = ODD + [[], [0], [1], -1, -2, -GREATEST]
NO_WHOLES = ODD + [[], [0], [1]]


def no_places(width):
    end = 2 ** width
    return ODD + [[], 0, 1, -1, GREATEST, [end], [-1], [0, end], [-1, 0], [1, 0], [0, 0], [0, 1, 1], [GREATEST]]


def no_words(width, many):
    end = 2 ** width
    wrong = [0, 1, -1, GREATEST, [0] * (many - 1), [0] * (many + 1), [0] * (many - 1) + [end], [-1] + [0] * (many - 1)]
    wrong += [[0] * (many - 1) + [last] for last in [True, False, None, "0", [0], (0,), GREATEST, Unfit()]]
    return ODD + wrong + [tuple([0] * many), {place: 0 for place in range(many)}, "0" * many]


def no_parts(width, places):
    strangers = [word for word in [0, 1, 2 ** width - 1, 5] if word not in places]
    wrong = [[-1], [2 ** width], [GREATEST], [places[-1], places[0]], [places[0], places[0]], tuple(places), places[0]]
    return ODD + wrong + [[stranger] for stranger in strangers if stranger < 2 ** width]


def refused(case, function, arguments, kind, value):
    """Checks that a call raises just this class of error, with this very value, and changes no argument."""
    before = repr(arguments)
    try:
        answer = function(*arguments)
    except CodeError as error:
        case.assertIs(error.__class__, kind, (function.__name__, arguments))
        case.assertIs(error.value, value, (function.__name__, arguments))
    else:
        case.fail((function.__name__, arguments, answer))
    case.assertEqual(repr(arguments), before)


def check_refusals(case, function, right, wrong):
    """Checks each wrong value alone, and with all later arguments wrong, too.

    right are right arguments; wrong has for the first of them, in order, the error and the wrong values.
    """
    for at, (kind, values) in enumerate(wrong):
        for number, value in enumerate(values):
            refused(case, function, right[:at] + [value] + right[at + 1:], kind, value)
            behind = [others[number % len(others)] for _, others in wrong[at + 1:]]
            rest = right[at + 1 + len(behind):]
            refused(case, function, right[:at] + [value] + behind + rest, kind, value)


def check_judged(case, function, arguments, rights, wrongs):
    """Checks that a function that judges answers with just True or just False, and raises nothing."""
    for value in rights:
        case.assertIs(function(*arguments, value), True, (function.__name__, arguments, value))
    for value in wrongs:
        before = repr(value)
        case.assertIs(function(*arguments, value), False, (function.__name__, arguments, value))
        case.assertEqual(repr(value), before)
