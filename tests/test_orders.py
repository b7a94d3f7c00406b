import random
import unittest
from itertools import combinations, combinations_with_replacement, permutations

from anyplaces.errors import InvalidItems, InvalidNumber, InvalidPlaces, InvalidWidth, Unfit
from anyplaces.orders import good_order, how_many_even, is_good_order, least_twos, places_with, uneven_branch
from tests.plain import (
    all_twos, begun_with, first_uneven, follows_rule, good_orders, lists_of_places, numbers_by_rests, twos,
)
from tests.wrong import GREATEST, NO_COUNTS, NO_WIDTHS, ODD, check_judged, check_refusals, no_places


def some_places(chance, width, many):
    return sorted(chance.sample(range(2 ** width), many)) if width < 60 else sorted(
        {chance.getrandbits(width) for _ in range(many)})


class TestExamples(unittest.TestCase):
    def test_orders(self):
        self.assertEqual(
            [good_order(4, [0, 1, 2, 4]), good_order(3, [1, 3, 5, 7]), good_order(4, [0, 4, 8, 12])[1]],
            [([0, 1, 2, 4], [0, 0, 1, 3]), ([1, 3, 5, 7], [0, 1, 3, 4]), [0, 2, 5, 7]])
        self.assertEqual(
            [is_good_order(4, [0, 1, 2, 4], [4, 1, 2, 0]), is_good_order(4, [0, 1, 2, 4], [0, 2, 1, 4]),
             least_twos(4, [0, 1, 2, 4], 3)],
            [True, False, 1])

    def test_branches(self):
        self.assertEqual(
            [uneven_branch(3, [0, 1, 2, 4]), uneven_branch(3, [0, 1, 2, 3]), uneven_branch(3, [0, 1, 4]),
             [how_many_even(3, many) for many in range(5)]],
            [(0, 0), None, (1, 0), [1, 8, 16, 32, 16]])

    def test_places_with(self):
        self.assertEqual(
            [places_with(4, [0, 0, 1, 3]), places_with(4, [0, 4]), places_with(4, [0, 3]), places_with(1, [0, 0, 1])],
            [[0, 1, 2, 4], None, [0, 8], None])


class TestGoodOrder(unittest.TestCase):
    def test_all_orders_of_few_places(self):
        for places in lists_of_places(3, range(1, 6)):
            orders = good_orders(places)
            order, numbers = good_order(3, places)
            # begun with the first place, with the first of several: the first one of all
            self.assertEqual(order, min(orders))
            for other in permutations(places):
                self.assertIs(is_good_order(3, places, list(other)), list(other) in orders)
            for first in places:
                self.assertEqual(begun_with(first, places), numbers)

    def test_numbers_begun_anywhere(self):
        chance = random.Random(3)
        for width in [4, 6, 10, 33, 64]:
            for many in [2, 7, 12]:
                places = some_places(chance, width, many)
                order, numbers = good_order(width, places)
                self.assertTrue(follows_rule(order))
                self.assertEqual(numbers, sorted(numbers))
                self.assertEqual(numbers, numbers_by_rests(places))
                for first in places:
                    self.assertEqual(begun_with(first, places), numbers)
                self.assertTrue(is_good_order(width, places, order))

    def test_one_place_left_out(self):
        chance = random.Random(4)
        for _ in range(30):
            places = some_places(chance, 6, 8)
            numbers = good_order(6, places)[1]
            for place in places:
                fewer = good_order(6, [other for other in places if other != place])[1]
                for k, number in enumerate(fewer):
                    self.assertTrue(numbers[k] <= number <= numbers[k + 1])

    def test_neighbours(self):
        for first in [0, 1, 6, 100]:
            wanted = [0]
            for step in range(1, 64):
                wanted.append(wanted[-1] + twos(step))
            self.assertEqual(good_order(8, list(range(first, first + 64)))[1], wanted)

    def test_edges(self):
        last = 2 ** 64 - 1
        self.assertEqual(good_order(64, [last]), ([last], [0]))
        self.assertEqual(good_order(1, [0, 1]), ([0, 1], [0, 0]))
        self.assertEqual(good_order(1, [1]), ([1], [0]))
        self.assertEqual(good_order(64, [0, 2 ** 63]), ([0, 2 ** 63], [0, 63]))
        steps = [k * 2 ** 58 for k in range(64)]
        neighbours = good_order(64, list(range(64)))[1]
        self.assertEqual(good_order(64, steps)[1], [number + 58 * k for k, number in enumerate(neighbours)])
        self.assertEqual(good_order(64, steps)[0][:3], [0, 2 ** 58, 2 * 2 ** 58])
        self.assertEqual(good_order(4, [0, 2, 5, 9])[0], [0, 5, 2, 9])

    def test_kinds(self):
        answer = good_order(4, [0, 1, 2])
        self.assertEqual([answer.__class__, answer[0].__class__, answer[1].__class__], [tuple, list, list])

    def test_wrong(self):
        check_refusals(self, good_order, [3, [0, 5]], [(InvalidWidth, NO_WIDTHS), (InvalidPlaces, no_places(3))])


class TestIsGoodOrder(unittest.TestCase):
    def test_any_value(self):
        places = [0, 1, 2, 4]
        wrongs = ODD + [
            [], 0, [0, 1, 2], [0, 1, 2, 4, 4], [0, 1, 2, 2], [0, 1, 2, 5], (0, 1, 2, 4), [False, 1, 2, 4],
            [0, True, 2, 4], [0, 1, 2, "4"], [0, 1, 2, None], [0, 1, 2, [4]], [[0, 1, 2, 4]], {0: 0, 1: 1, 2: 2, 4: 3},
            [0, 1, 2, Unfit()], [0, 1, 2, 4, 8], [0, 2, 1, 4], [2, 4, 1, 0], [GREATEST, 0, 1, 2],
        ]
        check_judged(self, is_good_order, [4, places], [places, [1, 0, 2, 4], [4, 1, 2, 0]], wrongs)
        check_judged(self, is_good_order, [64, [2 ** 64 - 1]], [[2 ** 64 - 1]], [[0], [], [True]])

    def test_wrong(self):
        for value in [[0, 5], None]:
            wrong = [(InvalidWidth, NO_WIDTHS), (InvalidPlaces, no_places(3))]
            check_refusals(self, is_good_order, [3, [0, 5], value], wrong)


class TestLeastTwos(unittest.TestCase):
    def test_all_choices(self):
        chance = random.Random(5)
        lots = lists_of_places(3, range(1, 6)) + [some_places(chance, 6, 8) for _ in range(8)]
        for places in lots:
            for many in range(len(places) + 1):
                least = min(all_twos(chosen) for chosen in combinations(places, many))
                self.assertEqual(least_twos(6, places, many), least)

    def test_edges(self):
        self.assertEqual(least_twos(64, [2 ** 64 - 1], 0), 0)
        self.assertEqual(least_twos(64, [2 ** 64 - 1], 1), 0)
        self.assertEqual(least_twos(1, [0, 1], 2), 0)
        self.assertEqual(least_twos(64, [0, 2 ** 63], 2), 63)

    def test_wrong(self):
        wrong = [
            (InvalidWidth, NO_WIDTHS), (InvalidPlaces, no_places(3)), (InvalidNumber, NO_COUNTS + [3, 4, GREATEST]),
        ]
        check_refusals(self, least_twos, [3, [0, 5], 2], wrong)


class TestUnevenBranch(unittest.TestCase):
    def test_plain_count(self):
        chance = random.Random(6)
        lots = lists_of_places(3, range(1, 9)) + [some_places(chance, 7, many) for many in [9, 20, 40, 90]]
        for places in lots:
            self.assertEqual(uneven_branch(7, places), first_uneven(7, places))

    def test_numbers_of_neighbours(self):
        for places in lists_of_places(3, range(1, 9)):
            numbers = good_order(3, places)[1]
            neighbours = good_order(4, list(range(len(places))))[1]
            self.assertTrue(all(number >= other for number, other in zip(numbers, neighbours)))
            self.assertIs(uneven_branch(3, places) is None, numbers == neighbours)

    def test_edges(self):
        self.assertIsNone(uneven_branch(1, [0]))
        self.assertIsNone(uneven_branch(1, [0, 1]))
        self.assertIsNone(uneven_branch(64, [2 ** 64 - 1]))
        self.assertEqual(uneven_branch(64, [2 ** 63 - 1, 2 ** 64 - 1]), (0, 0))
        self.assertEqual(uneven_branch(64, [0, 1, 3, 2 ** 63]), (1, 0))
        # the first one of a level, although the other rest comes first among the places
        self.assertEqual(uneven_branch(4, [1, 4, 5, 8]), (1, 0))
        self.assertEqual(uneven_branch(4, [1, 2, 5, 6]), (1, 0))
        self.assertEqual(uneven_branch(4, [1, 2, 5, 8]), (1, 1))
        self.assertIsNone(uneven_branch(64, list(range(2 ** 64 - 64, 2 ** 64))))

    def test_wrong(self):
        check_refusals(self, uneven_branch, [3, [0, 5]], [(InvalidWidth, NO_WIDTHS), (InvalidPlaces, no_places(3))])


class TestHowManyEven(unittest.TestCase):
    def test_listed(self):
        for width in [1, 2, 3]:
            for many in range(2 ** width + 3):
                lists = [list(places) for places in combinations(range(2 ** width), many)]
                even = [places for places in lists if first_uneven(width, places) is None]
                self.assertEqual(how_many_even(width, many), len(even))
        for many in range(5):
            even = [places for places in lists_of_places(4, [many]) if first_uneven(4, places) is None]
            self.assertEqual(how_many_even(4, many), len(even))

    def test_edges(self):
        self.assertEqual(how_many_even(64, 0), 1)
        self.assertEqual(how_many_even(64, 1), 2 ** 64)
        self.assertEqual(how_many_even(64, 2), 2 ** 126)
        self.assertEqual(how_many_even(64, 64), 2 ** (58 * 64))
        self.assertEqual(how_many_even(6, 64), 1)
        self.assertEqual(how_many_even(5, 64), 0)
        self.assertEqual([how_many_even(width, GREATEST) for width in [1, 2, 64]], [0, 0, 0])

    def test_wrong(self):
        check_refusals(self, how_many_even, [3, 2], [(InvalidWidth, NO_WIDTHS), (InvalidNumber, NO_COUNTS)])


class TestPlacesWith(unittest.TestCase):
    def test_listed(self):
        for width, sizes, top in [(1, range(1, 4), 3), (2, range(1, 5), 4), (3, range(1, 6), 6), (4, range(1, 5), 7)]:
            first = {}
            for places in lists_of_places(width, sizes):
                first.setdefault(tuple(numbers_by_rests(places)), places)
            asked = 0
            for many in sizes:
                for behind in combinations_with_replacement(range(top), many - 1):
                    numbers = [0] + list(behind)
                    asked += tuple(numbers) in first
                    self.assertEqual(places_with(width, numbers), first.get(tuple(numbers)))
            self.assertGreater(asked, 0)

    def test_there_and_back(self):
        chance = random.Random(9)
        for width in [4, 9, 40, 64]:
            for many in range(1, 9):
                places = some_places(chance, width, many)
                numbers = good_order(width, places)[1]
                found = places_with(width, numbers)
                self.assertEqual(good_order(width, found)[1], numbers)
                self.assertLessEqual(found, places)

    def test_edges(self):
        self.assertEqual(places_with(1, [0]), [0])
        self.assertEqual(places_with(64, [0]), [0])
        self.assertEqual(places_with(64, [0, 63]), [0, 2 ** 63])
        self.assertIsNone(places_with(64, [0, 64]))
        self.assertIsNone(places_with(64, [0, 0, 0]))
        self.assertIsNone(places_with(64, [0, 1, 1]))
        self.assertIsNone(places_with(64, [0, 0, 10 ** 29]))
        self.assertIsNone(places_with(64, [0, GREATEST]))
        self.assertIsNone(places_with(64, [0, 61, 123, 183]))
        self.assertIsNone(places_with(64, [0, 61, 123, 187]))
        self.assertEqual(places_with(64, [0, 61, 123, 184]), [0, 2 ** 61, 2 ** 62, 3 * 2 ** 61])

    def test_wrong(self):
        wrong_numbers = ODD + [
            [], 0, 1, (0,), (0, 1), [1], [0, 1, 0], [0, 2, 1], [-1], [0, -1], [-1, 0], [1, 1], [0, 0, 1, 0], {0: 0},
            [0, 0, None], [0, 0, True], [0, 0, "1"], [0, Unfit()], [GREATEST, 0],
        ]
        check_refusals(self, places_with, [3, [0, 0]], [(InvalidWidth, NO_WIDTHS), (InvalidItems, wrong_numbers)])


if __name__ == "__main__":
    unittest.main()
