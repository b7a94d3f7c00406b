"""What width, rows, columns and the two counts fix of a grid, and reading tables off along both good orders."""

from anyplaces.demands import need_count, need_places, need_width
from anyplaces.plans import Plan, item_bits, item_for, read_off, word_of_items


class Grid:
    """A grid: the plan of the code of its rows, and that of its columns."""

    def __init__(self, width, rows, columns, count, other_count):
        self.row_plan = Plan(width, rows, count)
        self.column_plan = Plan(width, columns, other_count)


def grid_of(width, rows, columns, count, other_count):
    """Returns a grid, whose five arguments are refused in their order."""
    need_width(width)
    need_places(width, rows)
    need_places(width, columns)
    need_count(count)
    need_count(other_count)
    return Grid(width, rows, columns, count, other_count)


def item_bits_of(grid):
    """Returns a list with a list for each item of the rows: how many bits the grid items with it have."""
    numbers = grid.column_plan.numbers[:grid.column_plan.many]
    return [[bits - number for number in numbers if number < bits] for bits in item_bits(grid.row_plan)]


def table_of(grid, lists, rows, columns):
    """Returns the words at any rows and columns; lists has, for each item of the rows, the numbers with it."""
    sums = [[word_of_items(grid.column_plan, numbers, column) for numbers in lists] for column in columns]
    return [[word_of_items(grid.row_plan, items, row) for items in sums] for row in rows]


def items_for(plan, k, lackings):
    """Returns the list of the items k that make up for what is lacking in each column, None if not all do."""
    items = [item_for(plan, k, lacking) for lacking in lackings]
    return None if any([item is None for item in items]) else items


def lists_of(grid, table):
    """Returns, for each item of the rows, the numbers with it of a grid word, None if the table is none."""
    rows = grid.row_plan
    columns = grid.column_plan
    told = dict(zip(rows.code_places, table))
    sums = [[] for _ in columns.code_places]
    lists = []
    for k, row in enumerate(rows.order):
        lackings = [word - word_of_items(rows, items, row) for word, items in zip(told[row], sums)]
        if k >= rows.many:
            if any(lackings):
                return None
            continue
        found = items_for(rows, k, lackings)
        if found is None:
            return None
        # an item of the rows is told by fewer bits than a word has, and just so many bits have the words of its numbers
        numbers = read_off(Plan(rows.code_width - rows.numbers[k], columns.code_places, columns.code_count), found)[0]
        if numbers is None:
            return None
        lists.append(numbers)
        sums = [items + [item] for items, item in zip(sums, found)]
    return lists
