"""Shapes of branches: two branches of one level have the same shape exactly if their places are alike."""

NO_PLACES = 0


def shape_of(key, table):
    """Returns the number that a table of shapes has for a key, a new one for a new key."""
    # 0 is left for a half without places
    return table.setdefault(key, len(table) + 1)


def sizes_at(level, places):
    """Returns how many places the branches of a level have, by the branches' rests."""
    sizes = {}
    for place in places:
        rest = place & ((1 << level) - 1)
        sizes[rest] = sizes.get(rest, 0) + 1
    return sizes


def halves_of(level, rest, below):
    """Returns what the next level tells of the two halves of a branch."""
    return below.get(rest, NO_PLACES), below.get(rest + (1 << level), NO_PLACES)


def rests_at(level, rests):
    """Returns the rests by 2 ** level that occur, each once."""
    return sorted({rest & ((1 << level) - 1) for rest in rests})


def shapes_down_to(deepest, places, table):
    """Returns a dict of the branches' shapes by their rests for each level from 0 to the deepest one.

    At the deepest level nothing of a branch counts but how many places it has.
    """
    sizes = sizes_at(deepest, places)
    shapes = [{rest: shape_of((sizes[rest],), table) for rest in sizes}]
    for level in reversed(range(deepest)):
        below = shapes[-1]
        now = {}
        for rest in rests_at(level, below):
            # which half is the even one makes no difference
            now[rest] = shape_of(tuple(sorted(halves_of(level, rest, below))), table)
        shapes.append(now)
    shapes.reverse()
    return shapes
