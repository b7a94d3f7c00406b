"""Grids: tables of the words that polynomials in two numbers have at rows and columns."""

from anyplaces.bestparts import lost_parts
from anyplaces.demands import need_part
from anyplaces.errors import InvalidGrid, InvalidItems
from anyplaces.gridplans import Grid, grid_of, item_bits_of, lists_of, table_of
from anyplaces.ordering import ordered
from anyplaces.plans import product_at
from anyplaces.telling import gap_in, tells_all
from anyplaces.trees import branch_of
from anyplaces.values import are_numbers_of, are_table


def items_of_grid(grid):
    """Returns the list of the grid items."""
    return [(i, j) for i, bits in enumerate(item_bits_of(grid)) for j in range(len(bits))]


def bits_in_turn(grid):
    """Returns the list of how many bits the grid items have, in their order."""
    return [many for bits in item_bits_of(grid) for many in bits]


def grid_items(width, rows, columns, count, other_count):
    """Returns the list of the grid items."""
    return items_of_grid(grid_of(width, rows, columns, count, other_count))


def grid_size(width, rows, columns, count, other_count):
    """Returns how many grid words there are."""
    return 1 << sum(bits_in_turn(grid_of(width, rows, columns, count, other_count)))


def grid_word(width, rows, columns, count, other_count, numbers):
    """Returns the grid word that has these numbers, which stand in the order of the grid items."""
    grid = grid_of(width, rows, columns, count, other_count)
    if not are_numbers_of(bits_in_turn(grid), numbers):
        raise InvalidItems(numbers)
    lists = []
    begun = 0
    for bits in item_bits_of(grid):
        lists.append(numbers[begun:begun + len(bits)])
        begun += len(bits)
    return table_of(grid, lists, rows, columns)


def need_table(width, rows, columns, table):
    """Raises InvalidGrid unless this is a list with a list of a word for each column for each row."""
    if not are_table(width, rows, columns, table):
        raise InvalidGrid(table)


def numbers_of(width, rows, columns, count, other_count, table):
    """Returns the numbers of a grid word in the order of the grid items, None if a table is none."""
    grid = grid_of(width, rows, columns, count, other_count)
    need_table(width, rows, columns, table)
    lists = lists_of(grid, table)
    return None if lists is None else [number for numbers in lists for number in numbers]


def is_grid_word(width, rows, columns, count, other_count, value):
    """Returns whether a value is a grid word."""
    grid = grid_of(width, rows, columns, count, other_count)
    return are_table(width, rows, columns, value) and lists_of(grid, value) is not None


def how_many_both(width, rows, columns, count, other_count):
    """Returns how many tables have only codewords as rows and as columns."""
    grid = grid_of(width, rows, columns, count, other_count)
    numbers = grid.row_plan.numbers[:grid.row_plan.many]
    others = grid.column_plan.numbers[:grid.column_plan.many]
    return 1 << sum([width - max(number, other) for number in numbers for other in others])


def need_some(rows, columns, some_rows, some_columns):
    """Raises InvalidPlaces unless these are some of the rows, and some of the columns."""
    need_part(rows, some_rows)
    need_part(columns, some_columns)


def tells_grid(grid, some_rows, some_columns):
    """Returns whether the words where some rows and some columns meet tell the whole grid word."""
    if grid.row_plan.many == 0 or grid.column_plan.many == 0:
        # there is one grid word alone
        return True
    return tells_all(grid.row_plan, some_rows) and tells_all(grid.column_plan, some_columns)


def meeting_tells(width, rows, columns, count, other_count, some_rows, some_columns):
    """Returns whether the words where some rows and some columns meet tell the whole grid word."""
    grid = grid_of(width, rows, columns, count, other_count)
    need_some(rows, columns, some_rows, some_columns)
    return tells_grid(grid, some_rows, some_columns)


def filled_grid(width, rows, columns, count, other_count, some_rows, some_columns, table):
    """Returns the only grid word with the words of a table where some rows and columns meet, or None."""
    grid = grid_of(width, rows, columns, count, other_count)
    need_some(rows, columns, some_rows, some_columns)
    need_table(width, some_rows, some_columns, table)
    if not tells_grid(grid, some_rows, some_columns):
        return None
    # the sum that has these words has the same exponents as all grid words, so it goes on at the other places
    meeting = Grid(width, some_rows, some_columns, count, other_count)
    lists = lists_of(meeting, table)
    return None if lists is None else table_of(meeting, lists, rows, columns)


def lightest_losses(grid):
    """Returns the rows and the columns whose loss tells the grid distance, None if there is one grid word alone."""
    items = items_of_grid(grid)
    rows_lost = lost_parts(branch_of(grid.row_plan.code_places), sorted({i + 1 for i, _ in items}))
    columns_lost = lost_parts(branch_of(grid.column_plan.code_places), sorted({j + 1 for _, j in items}))
    best = None
    for i, j in items:
        losses = (rows_lost[i + 1], columns_lost[j + 1])
        if best is None or len(losses[0]) * len(losses[1]) < len(best[0]) * len(best[1]):
            best = losses
    return best


def grid_distance(width, rows, columns, count, other_count):
    """Returns at how many places two unlike grid words differ at least, None if there is one grid word alone."""
    losses = lightest_losses(grid_of(width, rows, columns, count, other_count))
    return None if losses is None else len(losses[0]) * len(losses[1])


def light_bits(plan, lost):
    """Returns for each place 1 or 0, not always 0, but 0 wherever the place is not lost.

    The loss must leave a part that is not telling.
    """
    order, numbers = ordered([place for place in plan.code_places if place not in lost])
    k = gap_in(plan, numbers)
    # where nothing is lost the product is divided by 2 more often than at some of the other places
    return [product_at(order[:k], place) >> plan.numbers[k] & 1 for place in plan.code_places]


def light_grid(width, rows, columns, count, other_count):
    """Returns a grid word that is not 0 at just as many places as the grid distance tells, or None."""
    grid = grid_of(width, rows, columns, count, other_count)
    losses = lightest_losses(grid)
    if losses is None:
        return None
    row_bits = light_bits(grid.row_plan, losses[0])
    column_bits = light_bits(grid.column_plan, losses[1])
    return [[(bit & other) << (width - 1) for other in column_bits] for bit in row_bits]
