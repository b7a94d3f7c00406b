import random
import unittest
from itertools import combinations

from anyplaces.bases import always_read, splits
from anyplaces.codes import is_codeword
from anyplaces.distance import (
    by_widths, distance, how_many_light, hurting, is_lightest, least_lost, lightest, neighbour_distance,
)
from anyplaces.errors import InvalidNumber, InvalidPlaces, InvalidWidth, Unfit
from anyplaces.orders import good_order
from anyplaces.sizes import item_count
from anyplaces.telling import is_telling
from tests.plain import all_codewords, best_parts, least_unlike
from tests.test_codes import random_code
from tests.test_telling import CODES
from tests.wrong import GREATEST, NO_COUNTS, NO_WHOLES, NO_WIDTHS, ODD, check_judged, check_refusals, no_places

FOUR = [0, 1, 2, 4]
LAST = 2 ** 64 - 1


def least_loss(places, bases):
    """How few places have to go until none of the bases is left."""
    for many in range(len(places) + 1):
        for lost in combinations(places, many):
            if all(set(base) & set(lost) for base in bases):
                return many
    return None


def lost_by_rule(places, j):
    """The rule of point 39, with the splits that point 25 tells."""
    if j == 0:
        return None
    if len(places) == 1:
        return 1
    evens = [place // 2 for place in places if place % 2 == 0]
    odds = [place // 2 for place in places if place % 2]
    i, *other = splits(places, j)
    if not other:
        told = [lost_by_rule(evens, i), lost_by_rule(odds, j - i)]
    else:
        told = [lost_by_rule(evens, i), lost_by_rule(odds, j - i - 1)]
        told.append(lost_by_rule(evens, i + 1) + lost_by_rule(odds, j - i))
    return min(number for number in told if number is not None)


def figures_rule(many, items):
    """The least number above 0 of numbers in a row that have a figure 1 wherever some k below items has one."""
    counts = set()
    for k in range(items):
        step = 2 ** k.bit_length()
        for first in range(step):
            counts.add(len([number for number in range(first, first + many) if number & k == k]))
    return min(counts - {0})


def larger_codes(seed, many):
    chance = random.Random(seed)
    codes = [random_code(chance, width) for width in [2, 4, 8, 20, 64] * many]
    return codes + [(4, list(range(10)), 5), (5, list(range(0, 22, 2)), 4), (3, list(range(8)), 6)]


class TestExamples(unittest.TestCase):
    def test_distance(self):
        self.assertEqual(
            [distance(3, FOUR, 2), distance(3, [0, 1, 2, 3], 2), distance(3, FOUR, 1), distance(3, FOUR, 4),
             distance(3, FOUR, 0), distance(3, [0, 2, 4, 6], 3)],
            [1, 2, 4, 1, None, 2])
        self.assertEqual(
            [least_lost(FOUR, 1), least_lost(FOUR, 2), least_lost(FOUR, 3), least_lost([0, 1, 2, 3], 2),
             least_lost([5], 1), least_lost([5], 0)],
            [4, 1, 1, 2, 1, None])

    def test_light_ones(self):
        self.assertEqual(
            [hurting(3, FOUR, 2), lightest(3, FOUR, 2), is_lightest(3, FOUR, 2, [0, 4, 0, 0]),
             is_lightest(3, FOUR, 1, [4, 4, 4, 4]), is_lightest(3, FOUR, 2, [4, 0, 4, 4])],
            [[1], [0, 4, 0, 0], True, True, False])
        self.assertEqual([how_many_light(3, FOUR, 2), how_many_light(3, [0, 1, 2, 3], 2)], [1, 2])

    def test_widths_and_neighbours(self):
        self.assertEqual(
            [by_widths([0, 1, 2, 3], 4), by_widths(FOUR, 4), distance(4, [0, 1, 2, 9], 2)],
            [[(2, 4, 1)], [(3, 3, 1), (4, 4, 1)], 2])
        self.assertEqual(
            [neighbour_distance(8, 4), neighbour_distance(12, 6), neighbour_distance(7, 3),
             neighbour_distance(2 ** 64, 66), neighbour_distance(5, 5), neighbour_distance(5, 0)],
            [2, 2, 3, 288230376151711744, 1, None])


class TestDistance(unittest.TestCase):
    def check_hurting(self, code, least):
        width, places, count = code
        lost = hurting(*code)
        if least is None:
            self.assertIsNone(lost)
            self.assertIsNone(lightest(*code))
            return
        self.assertEqual(lost, sorted(set(lost)))
        self.assertLessEqual(set(lost), set(places))
        self.assertEqual(len(lost), least)
        self.assertIs(is_telling(*code, [place for place in places if place not in lost]), False)
        words = lightest(*code)
        self.assertTrue(is_codeword(*code, words))
        self.assertEqual(len([word for word in words if word]), least)
        self.assertIs(is_lightest(*code, words), True)

    def test_listed(self):
        for code in CODES:
            width, places, count = code
            listed = sorted(all_codewords(*code))
            least = least_unlike(listed)
            self.assertEqual(distance(*code), least)
            self.assertIs(least is None, count == 0)
            self.check_hurting(code, least)
            light = [words for words in listed if len([word for word in words if word]) == least]
            for words in listed:
                self.assertIs(is_lightest(*code, list(words)), words in light)
            highest = [words for words in light if set(words) <= {0, 2 ** (width - 1)}]
            self.assertEqual(how_many_light(*code), len(highest))
            self.assertIs(len(highest) > 0, least is not None)

    def test_larger_codes(self):
        for code in larger_codes(101, 8):
            places = code[1]
            many = item_count(*code)
            bases = best_parts(places, many) if many else [[]]
            least = least_loss(places, bases)
            self.assertEqual(distance(*code), least)
            self.check_hurting(code, least)
            if least is None:
                self.assertEqual(how_many_light(*code), 0)
                continue
            hurt = [lost for lost in combinations(places, least) if all(set(lost) & set(base) for base in bases)]
            self.assertEqual(how_many_light(*code), len(hurt))
            self.assertIs(least == 1, always_read(*code) != [])
            self.assertLessEqual(least, len(places) - many + 1)
            greatest = many in [1, len(places)] or many == len(places) - 1 and not always_read(*code)
            self.assertIs(least == len(places) - many + 1, greatest)

    def test_same_numbers_other_distances(self):
        self.assertEqual(good_order(4, FOUR)[1], good_order(4, [0, 1, 2, 9])[1])
        self.assertEqual([distance(4, FOUR, 2), distance(4, [0, 1, 2, 9], 2)], [1, 2])

    def test_edges(self):
        self.assertEqual(distance(64, [LAST], 1), 1)
        self.assertEqual(distance(64, [LAST], GREATEST), 1)
        self.assertIsNone(distance(64, [LAST], 0))
        self.assertEqual(hurting(64, [LAST], 1), [LAST])
        self.assertEqual(lightest(64, [LAST], 1)[0] > 0, True)
        self.assertEqual(how_many_light(64, [LAST], 1), 1)
        self.assertEqual(how_many_light(64, [LAST], 0), 0)
        self.assertIsNone(hurting(64, [LAST], 0))
        neighbours = list(range(64))
        self.assertEqual([distance(64, neighbours, count) for count in [1, 2, 3, 4, 32, 33, 64, GREATEST]],
                         [64, 32, 32, 16, 2, 2, 1, 1])
        self.assertEqual(hurting(64, neighbours, 1), neighbours)
        self.assertEqual(how_many_light(64, neighbours, 2), 2)
        self.assertEqual(how_many_light(64, neighbours, 64), 64)
        self.assertEqual(distance(1, [0, 1], 2), 1)
        self.assertEqual(distance(1, [0, 1], 1), 2)
        steps = [k * 2 ** 58 for k in range(64)]
        self.assertEqual([distance(64, steps, count) for count in [1, 2, 3, 64]], [64, 32, 32, 32])

    def test_any_value(self):
        wrongs = ODD + [[0, 0, 0, 0], [0, 4, 0, 4], [0, 2, 0, 0], [4, 0, 0, 0], [0, 4, 0], [0, 4, 0, 0, 0], (0, 4, 0, 0), 4,
                        [0, 4, 0, False], [0, 12, 0, 0], [0, -4, 0, 0], {0: 0, 1: 4, 2: 0, 4: 0}, [0, 4, 0, Unfit()],
                        [0, 4, 0, None], [], [4], GREATEST, [0, GREATEST, 0, 0]]
        check_judged(self, is_lightest, [3, FOUR, 2], [[0, 4, 0, 0]], wrongs)
        check_judged(self, is_lightest, [3, FOUR, 0], [], wrongs)


class TestLeastLost(unittest.TestCase):
    def test_listed(self):
        chance = random.Random(102)
        lists = [list(places) for many in [1, 2, 3] for places in combinations(range(8), many)]
        lists += [sorted(chance.sample(range(32), chance.randint(4, 8))) for _ in range(40)] + [list(range(9))]
        for places in lists:
            for j in range(len(places) + 1):
                self.assertEqual(least_lost(places, j), least_loss(places, best_parts(places, j)) if j else None)

    def test_by_rule(self):
        chance = random.Random(103)
        lists = [sorted({chance.getrandbits(bits) for _ in range(many)}) for bits in [5, 6, 7, 64] for many in [12, 24, 40, 64]]
        for places in lists + [list(range(64)), [k * 2 ** 58 for k in range(64)]]:
            for j in [0, 1, 2, 3, len(places) // 2, len(places) - 1, len(places)]:
                self.assertEqual(least_lost(places, j), lost_by_rule(places, j))

    def test_is_the_distance(self):
        for code in larger_codes(104, 6):
            self.assertEqual(distance(*code), least_lost(code[1], item_count(*code)))

    def test_edges(self):
        self.assertEqual(least_lost([LAST], 1), 1)
        self.assertIsNone(least_lost([LAST], 0))
        self.assertEqual([least_lost([0, 2 ** 63], j) for j in range(3)], [None, 2, 1])
        self.assertIsNone(least_lost(list(range(64)), 0))
        self.assertEqual([least_lost(list(range(64)), j) for j in [1, 2, 3, 33, 64]], [64, 32, 32, 2, 1])


class TestByWidths(unittest.TestCase):
    def by_each_width(self, places, count):
        told = []
        for width in range(max(1, places[-1].bit_length()), 65):
            many = item_count(width, places, count)
            if not told or told[-1][1] != many:
                told.append((width, many, distance(width, places, count)))
        return told

    def test_each_width(self):
        chance = random.Random(105)
        lists = [random_code(chance, width)[1:] for width in [1, 2, 4, 8, 20, 64] * 8]
        for places, count in lists + [(list(range(20)), 20), (list(range(0, 40, 4)), GREATEST), ([0, 2 ** 40], 2)]:
            self.assertEqual(by_widths(places, count), self.by_each_width(places, count))

    def test_edges(self):
        self.assertEqual(by_widths([0], 0), [(1, 0, None)])
        self.assertEqual(by_widths([LAST], 0), [(64, 0, None)])
        self.assertEqual(by_widths([LAST], GREATEST), [(64, 1, 1)])
        self.assertEqual(by_widths([0], 1), [(1, 1, 1)])
        self.assertEqual(by_widths([0, 1, 2, 3, 4], 5), [(3, 4, 1), (4, 5, 1)])
        self.assertEqual(by_widths([0, 8], 2), [(4, 2, 1)])
        neighbours = list(range(64))
        self.assertEqual(by_widths(neighbours, GREATEST)[:2], [(6, 8, 8), (8, 10, 8)])
        self.assertEqual(by_widths(neighbours, GREATEST)[-1], (58, 64, 1))


class TestNeighbours(unittest.TestCase):
    def test_by_codes(self):
        for many in range(1, 25):
            for items in range(many + 1):
                for first in [0, 1, 5, 2 ** 64 - 24]:
                    places = list(range(first, first + many))
                    self.assertEqual(neighbour_distance(many, items), distance(64, places, items))

    def test_by_figures(self):
        for many in range(1, 20):
            for items in range(1, many + 1):
                self.assertEqual(neighbour_distance(many, items), figures_rule(many, items))

    def test_all_words(self):
        for width in [1, 2, 5, 64, 90]:
            for items in [1, 2, 3, 4, 63, 64, 65, 2 ** 50 + 1]:
                if items <= 2 ** width:
                    t = items.bit_length() - 1
                    self.assertEqual(neighbour_distance(2 ** width, items), 2 ** (width - t))

    def test_great_numbers(self):
        chance = random.Random(106)
        for _ in range(40):
            many = chance.randint(10 ** 20, GREATEST)
            items = chance.randint(1, many // 10 ** chance.randint(1, 18))
            told = neighbour_distance(many, items)
            self.assertTrue(1 <= told <= many - items + 1)
            self.assertEqual(neighbour_distance(many, 2 * items), neighbour_distance(many // 2, items))
            self.assertLessEqual(neighbour_distance(many, items + 1), told)
        self.assertEqual(neighbour_distance(GREATEST, 1), GREATEST)
        self.assertEqual(neighbour_distance(GREATEST, GREATEST), 1)
        self.assertEqual(neighbour_distance(GREATEST, 2), GREATEST // 2)
        self.assertEqual(neighbour_distance(GREATEST, GREATEST - 1), 1)
        self.assertIsNone(neighbour_distance(GREATEST, 0))

    def test_edges(self):
        self.assertEqual(neighbour_distance(1, 1), 1)
        self.assertIsNone(neighbour_distance(1, 0))
        self.assertEqual([neighbour_distance(3, items) for items in [1, 2, 3]], [3, 1, 1])
        self.assertEqual([neighbour_distance(2, items) for items in [1, 2]], [2, 1])


class TestWrong(unittest.TestCase):
    CODE = [(InvalidWidth, NO_WIDTHS), (InvalidPlaces, no_places(3)), (InvalidNumber, NO_COUNTS)]

    def test_codes(self):
        for function in [distance, hurting, lightest, how_many_light]:
            check_refusals(self, function, [3, FOUR, 2], self.CODE)
        for value in [[0, 4, 0, 0], None]:
            check_refusals(self, is_lightest, [3, FOUR, 2, value], self.CODE)

    def test_places(self):
        places = (InvalidPlaces, no_places(64))
        check_refusals(self, least_lost, [FOUR, 2], [places, (InvalidNumber, NO_COUNTS + [5, 6, GREATEST])])
        check_refusals(self, by_widths, [FOUR, 2], [places, (InvalidNumber, NO_COUNTS)])

    def test_neighbours(self):
        no_many = NO_WHOLES + [0, -1, -GREATEST]
        check_refusals(self, neighbour_distance, [8, 4], [(InvalidNumber, no_many), (InvalidNumber, NO_COUNTS + [9, 10, GREATEST])])


if __name__ == "__main__":
    unittest.main()
