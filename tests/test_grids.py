import random
import unittest
from itertools import product

from anyplaces.codes import codeword, is_codeword
from anyplaces.distance import least_lost
from anyplaces.errors import InvalidGrid, InvalidItems, InvalidNumber, InvalidPlaces, InvalidWidth, Unfit
from anyplaces.grids import (
    filled_grid, grid_distance, grid_items, grid_size, grid_word, how_many_both, is_grid_word, light_grid,
    meeting_tells, numbers_of,
)
from anyplaces.orders import good_order
from anyplaces.sizes import how_many_codewords, item_count
from anyplaces.telling import first_base, is_telling
from tests.plain import parts_of, product_of
from tests.wrong import GREATEST, NO_COUNTS, NO_WIDTHS, ODD, check_judged, check_refusals, no_parts, no_places, nested, refused

TWO, EVEN = [0, 1], [0, 2]
LAST = 2 ** 64 - 1
# grids all of whose tables can be listed
SMALL = [
    (1, [0], [1], 1, 1), (1, TWO, TWO, 1, 1), (1, TWO, TWO, 2, 1), (1, TWO, TWO, 2, 2), (1, TWO, [0], 0, 1),
    (1, TWO, TWO, 1, 0), (1, TWO, TWO, GREATEST, GREATEST), (2, EVEN, EVEN, 2, 2), (2, TWO, EVEN, 2, 1),
    (2, EVEN, TWO, 2, 2), (2, [1, 3], EVEN, 1, 2), (2, EVEN, EVEN, 0, 0), (2, EVEN, EVEN, 7, 2), (2, [0, 1, 2], [3], 2, 2),
    (2, [3], [0, 1, 2, 3], 1, 3), (2, [0, 1, 2], EVEN, 2, 2), (3, [0, 4], [0, 4], 2, 2), (3, [0, 4], EVEN, 2, 2),
    (3, [1, 5], [3, 7], 2, 1), (3, [0, 4], [2, 6], 1, GREATEST), (2, [1, 2, 3], [1, 3], 3, 2),
]
# all of whose grid words can be listed
LISTED = SMALL + [
    (2, [0, 1, 2], [0, 1, 3], 2, 2), (2, [0, 1, 2, 3], [0, 1, 2, 3], 2, 2), (2, [0, 2, 3], [0, 1, 2], 3, 2),
    (3, [0, 2, 4, 6], [0, 4], 2, 2), (1, TWO, TWO, 2, 3), (3, [0, 1, 2], [0, 4], 2, 2), (2, EVEN, [0, 1, 2, 3], 2, 3),
]


def grid_words(grid):
    """All tables of the words of polynomials in x and y with exponents below the counts, each once."""
    width, rows, columns, count, other_count = grid
    exponents = [(i, j) for i in range(min(count, len(rows))) for j in range(min(other_count, len(columns)))]
    powers = [[[x ** i * y ** j for y in columns] for x in rows] for i, j in exponents]
    found = set()
    for coefficients in product(range(2 ** width), repeat=len(exponents)):
        found.add(tuple(
            tuple(sum(a * power[r][c] for a, power in zip(coefficients, powers)) % 2 ** width for c in range(len(columns)))
            for r in range(len(rows))
        ))
    return found


def all_tables(grid):
    width, rows, columns = grid[:3]
    lines = list(product(range(2 ** width), repeat=len(columns)))
    return product(lines, repeat=len(rows))


def as_lists(table):
    return [list(words) for words in table]


def item_ends(grid):
    """The grid items, and the ends of their numbers."""
    width, rows, columns, count, other_count = grid
    numbers, others = good_order(width, rows)[1][:count], good_order(width, columns)[1][:other_count]
    return {(i, j): 2 ** (width - o - p) for i, o in enumerate(numbers) for j, p in enumerate(others) if o + p < width}


def table_by_rule(grid, numbers):
    """The sum of the numbers times both products, at all rows and columns."""
    width, rows, columns = grid[:3]
    row_order, column_order = good_order(width, rows)[0], good_order(width, columns)[0]
    given = list(zip(item_ends(grid), numbers))
    return [
        [sum(d * product_of(row_order[:i], x) * product_of(column_order[:j], y) for (i, j), d in given) % 2 ** width
         for y in columns] for x in rows
    ]


def meeting(table, grid, some_rows, some_columns):
    rows, columns = grid[1:3]
    return tuple(tuple(table[rows.index(x)][columns.index(y)] for y in some_columns) for x in some_rows)


def only_codewords(grid, table):
    """Whether all rows and columns of a table are codewords."""
    width, rows, columns, count, other_count = grid
    right = all(is_codeword(width, columns, other_count, list(words)) for words in table)
    return right and all(is_codeword(width, rows, count, list(words)) for words in zip(*table))


def cells(table):
    return sum(word != 0 for words in table for word in words)


def random_grid(chance, width, most):
    lists = []
    for _ in range(2):
        shift = chance.choice([0, 0, 1, 4]) if width > 8 else 0
        spread = chance.choice([width, 5, 8]) if width > 8 else width
        lists.append(sorted({chance.getrandbits(spread - shift) << shift for _ in range(chance.randint(1, most))}))
    return (width, *lists, chance.choice([0, 1, 2, 3, most]), chance.choice([1, 2, 3, most + 2, GREATEST]))


def random_grids(seed, many, most):
    chance = random.Random(seed)
    return [random_grid(chance, width, most) for width in [1, 2, 4, 8, 20, 64] * many]


class TestExamples(unittest.TestCase):
    def test_words(self):
        self.assertEqual(
            [grid_items(2, EVEN, EVEN, 2, 2), grid_size(2, EVEN, EVEN, 2, 2), how_many_both(2, EVEN, EVEN, 2, 2),
             grid_size(2, TWO, TWO, 2, 2)],
            [[(0, 0), (0, 1), (1, 0)], 16, 32, 256])
        self.assertEqual(
            [grid_word(2, EVEN, EVEN, 2, 2, [1, 1, 1]), numbers_of(2, EVEN, EVEN, 2, 2, [[1, 3], [3, 1]]),
             numbers_of(2, EVEN, EVEN, 2, 2, [[1, 3], [3, 3]]), is_grid_word(2, TWO, TWO, 1, 1, [[3, 3], [3, 3]])],
            [[[1, 3], [3, 1]], [1, 1, 1], None, True])

    def test_meetings_and_distances(self):
        self.assertEqual(
            [meeting_tells(2, EVEN, EVEN, 2, 1, [0, 2], [2]), meeting_tells(2, EVEN, EVEN, 2, 2, [0], [0, 2]),
             filled_grid(2, TWO, EVEN, 2, 1, [0, 1], [2], [[1], [2]])],
            [True, False, [[1, 1], [2, 2]]])
        self.assertEqual(
            [grid_distance(2, EVEN, EVEN, 2, 2), grid_distance(2, TWO, TWO, 1, 1), grid_distance(2, TWO, TWO, 0, 1),
             light_grid(1, TWO, [0], 1, 1)],
            [2, 4, None, [[1], [1]]])


class TestWords(unittest.TestCase):
    def test_numbers(self):
        for grid in LISTED:
            ends = item_ends(grid)
            self.assertEqual(grid_items(*grid), sorted(ends))
            made = {}
            for numbers in product(*[range(end) for end in ends.values()]):
                table = grid_word(*grid, list(numbers))
                self.assertEqual(numbers_of(*grid, table), list(numbers))
                made[tuple(tuple(words) for words in table)] = True
            listed = grid_words(grid)
            self.assertEqual(set(made), listed)
            # each in just one way
            self.assertEqual(grid_size(*grid), len(listed))
            self.assertEqual(len(list(product(*[range(end) for end in ends.values()]))), len(listed))

    def test_by_rule(self):
        chance = random.Random(171)
        for grid in LISTED + random_grids(172, 6, 7):
            ends = list(item_ends(grid).values())
            for numbers in [[chance.randrange(end) for end in ends], [end - 1 for end in ends], [0] * len(ends)]:
                self.assertEqual(grid_word(*grid, numbers), table_by_rule(grid, numbers))

    def test_all_tables(self):
        for grid in SMALL:
            listed = grid_words(grid)
            both = 0
            for table in all_tables(grid):
                lists = as_lists(table)
                self.assertIs(is_grid_word(*grid, lists), table in listed)
                self.assertIs(numbers_of(*grid, lists) is not None, table in listed)
                right = only_codewords(grid, table)
                both += right
                self.assertTrue(right or table not in listed)
            self.assertEqual(how_many_both(*grid), both)
            width, rows, columns, count, other_count = grid
            numbers = good_order(width, rows)[1][:count], good_order(width, columns)[1][:other_count]
            above = any(0 < o < width and 0 < p < width for o in numbers[0] for p in numbers[1])
            self.assertIs(both == grid_size(*grid), not above)

    def test_there_and_back(self):
        chance = random.Random(173)
        for grid in random_grids(174, 8, 9):
            width, rows, columns, count, other_count = grid
            ends = list(item_ends(grid).values())
            size = 1
            for end in ends:
                size *= end
            self.assertEqual(grid_size(*grid), size)
            numbers = [chance.randrange(end) for end in ends]
            table = grid_word(*grid, numbers)
            self.assertEqual(numbers_of(*grid, table), numbers)
            self.assertIs(is_grid_word(*grid, table), True)
            self.assertTrue(only_codewords(grid, table))
            # one word changed: at least one row is no codeword then, or all may be anything there
            changed = as_lists(table)
            x, y = chance.randrange(len(rows)), chance.randrange(len(columns))
            changed[x][y] = (changed[x][y] + chance.choice([1, 2 ** (width - 1)])) % 2 ** width
            told = numbers_of(*grid, changed)
            self.assertIs(is_grid_word(*grid, changed), told is not None)
            if told is not None:
                self.assertEqual(grid_word(*grid, told), changed)
            if not only_codewords(grid, changed):
                self.assertIsNone(told)

    def test_one_row(self):
        # a grid with one row, or one item of the rows, is a code
        chance = random.Random(175)
        for width in [2, 8, 64] * 5:
            _, _, columns, _, other_count = random_grid(chance, width, 9)
            self.assertEqual(grid_size(width, [1], columns, 1, other_count), how_many_codewords(width, columns, other_count))
            many = item_count(width, columns, other_count)
            self.assertEqual(grid_items(width, [1], columns, 5, other_count), [(0, j) for j in range(many)])
            items = [chance.randrange(end) for end in item_ends((width, [1], columns, 1, other_count)).values()]
            words = codeword(width, columns, other_count, items)
            self.assertEqual(grid_word(width, [1], columns, 1, other_count, items), [words])
            self.assertEqual(grid_word(width, columns, [0], other_count, GREATEST, items), [[word] for word in words])

    def test_edges(self):
        self.assertEqual(grid_items(64, [LAST], [0], 1, 1), [(0, 0)])
        self.assertEqual(grid_size(64, [LAST], [0], 1, GREATEST), 2 ** 64)
        self.assertEqual(grid_word(64, [LAST], [0], 1, 1, [LAST]), [[LAST]])
        for counts in [(0, 1), (1, 0), (0, 0), (0, GREATEST)]:
            self.assertEqual(grid_items(64, [LAST, ], TWO, *counts), [])
            self.assertEqual(grid_size(64, [LAST], TWO, *counts), 1)
            self.assertEqual(how_many_both(64, [LAST], TWO, *counts), 1)
            self.assertEqual(grid_word(64, [LAST], TWO, *counts, []), [[0, 0]])
            self.assertEqual(numbers_of(64, [LAST], TWO, *counts, [[0, 0]]), [])
            self.assertIsNone(numbers_of(64, [LAST], TWO, *counts, [[0, 1]]))
            self.assertIs(is_grid_word(64, [LAST], TWO, *counts, [[2 ** 63, 0]]), False)
        self.assertEqual(grid_items(64, [0, 2 ** 32], [0, 2 ** 32], 2, 2), [(0, 0), (0, 1), (1, 0)])
        self.assertEqual(grid_items(64, [0, 2 ** 32], [0, 2 ** 31], 2, 2), [(0, 0), (0, 1), (1, 0), (1, 1)])
        self.assertEqual(how_many_both(64, [0, 2 ** 32], [0, 2 ** 32], 2, 2), 2 ** (64 + 32 + 32 + 32))
        forty = list(range(40))
        self.assertEqual(grid_size(64, forty, forty, 2, 2), 2 ** 256)
        self.assertEqual(len(grid_items(64, forty, forty, GREATEST, GREATEST)), len(item_ends((64, forty, forty, 40, 40))))

    def test_last_word_in_tables(self):
        # each single word that is changed is told, wherever no grid word has one word alone
        grid = (8, [0, 1, 2, 3], [0, 1, 2, 3, 4], 2, 3)
        table = grid_word(*grid, [1, 2, 3, 4, 5, 6])
        for x in range(4):
            for y in range(5):
                changed = as_lists(table)
                changed[x][y] ^= 128
                self.assertIsNone(numbers_of(*grid, changed))


class TestMeetings(unittest.TestCase):
    def test_listed(self):
        chance = random.Random(176)
        for grid in LISTED:
            width, rows, columns = grid[:3]
            listed = sorted(grid_words(grid))
            for some_rows in parts_of(rows):
                for some_columns in parts_of(columns):
                    groups = {}
                    for table in listed:
                        groups.setdefault(meeting(table, grid, some_rows, some_columns), []).append(table)
                    tells = all(len(group) == 1 for group in groups.values())
                    self.assertIs(meeting_tells(*grid, some_rows, some_columns), tells)
                    asked = chance.sample(sorted(groups), min(3, len(groups)))
                    asked += [tuple(tuple(chance.getrandbits(width) for _ in some_columns) for _ in some_rows)]
                    for words in asked:
                        found = groups.get(words, [])
                        only = as_lists(found[0]) if len(found) == 1 else None
                        self.assertEqual(filled_grid(*grid, some_rows, some_columns, as_lists(words)), only)

    def test_larger_grids(self):
        chance = random.Random(177)
        for grid in random_grids(178, 8, 9):
            width, rows, columns, count, other_count = grid
            numbers = [chance.randrange(end) for end in item_ends(grid).values()]
            table = grid_word(*grid, numbers)
            some_rows = sorted(chance.sample(rows, chance.randint(0, len(rows))))
            some_columns = sorted(chance.sample(columns, chance.randint(0, len(columns))))
            tells = meeting_tells(*grid, some_rows, some_columns)
            if count and other_count:
                both = is_telling(width, rows, count, some_rows), is_telling(width, columns, other_count, some_columns)
                self.assertIs(tells, both == (True, True))
            else:
                self.assertIs(tells, True)
            told = as_lists(meeting(table, grid, some_rows, some_columns))
            self.assertEqual(filled_grid(*grid, some_rows, some_columns, told), table if tells else None)
            bases = first_base(width, rows, count, rows), first_base(width, columns, other_count, columns)
            self.assertIs(meeting_tells(*grid, *bases), True)
            told = as_lists(meeting(table, grid, *bases))
            self.assertEqual(filled_grid(*grid, *bases, told), table)
            self.assertEqual(filled_grid(*grid, rows, columns, table), table)

    def test_edges(self):
        for grid in [(64, [LAST], TWO, 0, 2), (64, [LAST], TWO, 1, 0)]:
            # one grid word alone is told by nothing
            self.assertIs(meeting_tells(*grid, [], []), True)
            self.assertEqual(filled_grid(*grid, [], [], []), [[0, 0]])
            self.assertEqual(filled_grid(*grid, [LAST], [], [[]]), [[0, 0]])
            self.assertEqual(filled_grid(*grid, [], TWO, []), [[0, 0]])
            self.assertEqual(filled_grid(*grid, [LAST], [1], [[0]]), [[0, 0]])
            self.assertIsNone(filled_grid(*grid, [LAST], [1], [[5]]))
        self.assertIs(meeting_tells(64, [LAST], [0], 1, 1, [], []), False)
        self.assertIsNone(filled_grid(64, [LAST], [0], 1, 1, [], [], []))
        self.assertIsNone(filled_grid(64, [LAST], [0], 1, 1, [LAST], [], [[]]))
        self.assertIsNone(filled_grid(64, [LAST], [0], 1, 1, [], [0], []))
        self.assertEqual(filled_grid(64, [LAST], [0], 1, 1, [LAST], [0], [[7]]), [[7]])
        self.assertEqual(filled_grid(64, TWO, TWO, 2, 2, TWO, TWO, [[0, 0], [0, LAST]]), [[0, 0], [0, LAST]])
        # what does not fit where it would tell
        self.assertIs(meeting_tells(2, TWO, EVEN, 2, 1, TWO, EVEN), True)
        self.assertIsNone(filled_grid(2, TWO, EVEN, 2, 1, TWO, EVEN, [[1, 1], [2, 3]]))


class TestDistances(unittest.TestCase):
    def check_light(self, grid, table, least):
        width, rows, columns = grid[:3]
        self.assertEqual([len(words) for words in table], [len(columns)] * len(rows))
        self.assertIs(is_grid_word(*grid, table), True)
        self.assertEqual(cells(table), least)

    def test_listed(self):
        chance = random.Random(179)
        seen = set()
        for grid in LISTED:
            least = min([cells(table) for table in grid_words(grid) if cells(table)], default=None)
            seen.add(least)
            self.assertEqual(grid_distance(*grid), least)
            self.assertIs(least is None, 0 in grid[3:])
            if least is None:
                self.assertIsNone(light_grid(*grid))
            else:
                self.check_light(grid, light_grid(*grid), least)
                tables = sorted(grid_words(grid))
                for _ in range(20):
                    one, other = chance.choice(tables), chance.choice(tables)
                    apart = sum(a != b for rows in zip(one, other) for a, b in zip(*rows))
                    self.assertTrue(one == other or apart >= least)
        self.assertLessEqual({None, 1, 2, 4}, seen)

    def test_by_rule(self):
        more = 0
        for grid in random_grids(180, 12, 12) + SMALL + [(9, [0, 8, 16, 24], [0, 16, 32], 4, 3)]:
            width, rows, columns, count, other_count = grid
            items = list(item_ends(grid))
            told = [least_lost(rows, i + 1) * least_lost(columns, j + 1) for i, j in items]
            least = grid_distance(*grid)
            self.assertEqual(least, min(told, default=None))
            if not items:
                self.assertIsNone(light_grid(*grid))
                continue
            self.check_light(grid, light_grid(*grid), least)
            pairs = [(i, j) for i in range(item_count(width, rows, count)) for j in range(item_count(width, columns, other_count))]
            rectangle = min(least_lost(rows, i + 1) * least_lost(columns, j + 1) for i, j in pairs)
            self.assertGreaterEqual(least, rectangle)
            more += least > rectangle
        self.assertGreater(more, 0)

    def test_edges(self):
        self.assertEqual(grid_distance(64, [LAST], [0], 1, 1), 1)
        self.check_light((64, [LAST], [0], 1, 1), light_grid(64, [LAST], [0], 1, 1), 1)
        self.assertIsNone(grid_distance(64, [LAST], [0], 1, 0))
        twelve = list(range(12))
        self.assertEqual(grid_distance(64, twelve, twelve, 1, 1), 144)
        self.assertEqual(grid_distance(64, twelve, twelve, GREATEST, GREATEST), 1)
        self.assertEqual(grid_distance(1, TWO, TWO, 2, 2), 1)
        steps = [k * 2 ** 58 for k in range(12)]
        for grid in [(64, twelve, twelve, 3, 5), (64, steps, twelve, 12, 12), (64, steps, steps, 2, 2), (4, twelve, twelve, 9, 9)]:
            self.check_light(grid, light_grid(*grid), grid_distance(*grid))


class TestWrong(unittest.TestCase):
    GRID = [(InvalidWidth, NO_WIDTHS), (InvalidPlaces, no_places(2)), (InvalidPlaces, no_places(2)),
            (InvalidNumber, NO_COUNTS), (InvalidNumber, NO_COUNTS)]
    RIGHT = [2, [0, 1, 2], [0, 2], 2, 2]

    def no_tables(self, width, rows, columns):
        """Values that are no tables with so many rows and columns, at least two of each."""
        end = 2 ** width
        right = [[0] * columns for _ in range(rows)]
        wrong = [right[1:], right + [[0] * columns], [[]] + right[1:], right[1:] + [[0] * (columns + 1)],
                 right[1:] + [[0] * (columns - 1)], tuple(right), right[1:] + [tuple([0] * columns)], [tuple([0] * columns)] * rows,
                 right[0], [0] * rows, right[1:] + [None], right[1:] + [0], right[1:] + ["0" * columns], {0: right[0]}]
        for word in [end, -1, True, False, None, "0", [0], (0,), GREATEST, Unfit(), {}]:
            wrong += [right[1:] + [[0] * (columns - 1) + [word]], [[word] + [0] * (columns - 1)] + right[1:]]
        return ODD + [0, 1, -1, GREATEST, [], [[]], [[0]]] + wrong

    def test_grids(self):
        for function in [grid_items, grid_size, how_many_both, grid_distance, light_grid]:
            check_refusals(self, function, self.RIGHT, self.GRID)
            check_refusals(self, function, self.RIGHT[:3] + [0, 0], self.GRID)

    def test_numbers(self):
        # numbers below 4, 2, 4, 2: the third item of the rows is none
        self.assertEqual(item_ends((2, [0, 1, 2], [0, 2], 2, 2)), {(0, 0): 4, (0, 1): 2, (1, 0): 4, (1, 1): 2})
        wrong = ODD + [
            [], 0, [0], [0] * 3, [0] * 5, (0, 0, 0, 0), [4, 0, 0, 0], [0, 2, 0, 0], [0, 0, 4, 0], [0, 0, 0, 2],
            [-1, 0, 0, 0], [0, 0, 0, -1], [True, 0, 0, 0], [0, 0, 0, False], [0, None, 0, 0], [0, "0", 0, 0],
            [[0], 0, 0, 0], [0, 0, 0, (0,)], [0, 0, 0, Unfit()], [GREATEST, 0, 0, 0], {0: 0}, "0000", [[0, 0], [0, 0]],
        ]
        grid_word(*self.RIGHT, [3, 1, 3, 1])
        check_refusals(self, grid_word, self.RIGHT + [[3, 1, 3, 1]], self.GRID + [(InvalidItems, wrong)])
        check_refusals(self, grid_word, self.RIGHT[:3] + [0, 2, []], self.GRID + [(InvalidItems, [[0], None, (), [[]]])])

    def test_tables(self):
        tables = self.no_tables(2, 3, 2)
        for counts in [[2, 2], [0, 1]]:
            right = self.RIGHT[:3] + counts
            check_refusals(self, numbers_of, right + [[[0, 0], [0, 0], [0, 1]]], self.GRID + [(InvalidGrid, tables)])
            for value in [[[0, 0], [0, 0], [0, 0]], None]:
                check_refusals(self, is_grid_word, right + [value], self.GRID)
        rights = [[[0, 0]] * 3, [[3, 3], [3, 3], [3, 3]], grid_word(*self.RIGHT, [3, 1, 2, 1])]
        wrongs = tables + [[[0, 1], [0, 0], [0, 0]], [[1, 0], [1, 0], [1, 0]], nested(list)]
        check_judged(self, is_grid_word, self.RIGHT, rights, wrongs)

    def test_meetings(self):
        some = [(InvalidPlaces, no_parts(2, [0, 1, 2])), (InvalidPlaces, no_parts(2, [0, 2]) + [[1]])]
        for parts in [[[0, 1], [0, 2]], [[], []]]:
            check_refusals(self, meeting_tells, self.RIGHT + parts, self.GRID + some)
        wrong = self.GRID + some + [(InvalidGrid, self.no_tables(2, 2, 2))]
        check_refusals(self, filled_grid, self.RIGHT + [[0, 1], [0, 2], [[0, 0], [1, 1]]], wrong)
        # tables of no rows, of no columns, and where the meeting does not tell
        for parts, right, wrongs in [([[], [0, 2]], [], [[[]], [[0, 0]], [0], (), None]),
                                     ([[0, 2], []], [[], []], [[], [[]], [[], [], []], [[], [0]], [[], ()], None]),
                                     ([[1], [2]], [[3]], [[3], [[4]], [[3, 3]], [[3], [3]], [], [[True]], [(3,)]])]:
            filled_grid(*self.RIGHT, *parts, right)
            for value in wrongs:
                refused(self, filled_grid, [*self.RIGHT, *parts, value], InvalidGrid, value)


if __name__ == "__main__":
    unittest.main()
