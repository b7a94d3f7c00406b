import random
import unittest
from itertools import combinations

from anyplaces.bases import (
    all_bases, always_read, base_numbered, cheapest_base, how_many_bases, is_cheapest, put_in_for, splits,
    telling_counts,
)
from anyplaces.errors import InvalidNumber, InvalidPlaces, InvalidPrices, InvalidWidth, TooMany, Unfit
from anyplaces.sizes import item_count
from anyplaces.telling import bit_rows, is_base
from tests.plain import all_twos, best_parts, parts_of
from tests.test_codes import random_code
from tests.test_telling import CODES, told_by_listing
from tests.wrong import GREATEST, NO_COUNTS, NO_WIDTHS, ODD, check_judged, check_refusals, no_parts, no_places, refused

FOUR = [0, 1, 2, 4]
LAST = 2 ** 64 - 1


def bases_by_listing(width, places, count):
    many = item_count(width, places, count)
    return sorted(part for part in told_by_listing(width, places, count) if len(part) == many)


def places_of_sizes(sizes):
    """Places with so many of each rest by 4."""
    return sorted(4 * at + rest for rest, size in enumerate(sizes) for at in range(size))


# one place of each rest by 4 makes a base of 4 places
JUST_2000 = places_of_sizes([16, 5, 5, 5])
OVER_2000 = places_of_sizes([1, 3, 23, 29])


def larger_codes(seed, many):
    chance = random.Random(seed)
    codes = [random_code(chance, width) for width in [1, 2, 4, 8, 20, 64] * many]
    return chance, codes + [(4, [0, 1, 2, 3, 4, 5, 6, 7], 5), (5, [0, 2, 4, 8, 16, 17, 24], 4), (6, list(range(9)), 6)]


class TestExamples(unittest.TestCase):
    def test_exchanges(self):
        self.assertEqual(
            [put_in_for(3, FOUR, 2, [0, 1], 2), always_read(3, FOUR, 2), always_read(3, FOUR, 3)],
            [[0], [1], [1, 2]])

    def test_prices(self):
        self.assertEqual(
            [cheapest_base(3, FOUR, 2, [5, 1, 2, 2]), is_cheapest(3, FOUR, 2, [5, 1, 2, 2], [1, 4]),
             is_cheapest(3, FOUR, 2, [5, 1, 2, 2], [0, 1])],
            [(3, [1, 2]), True, False])

    def test_counts(self):
        self.assertEqual(
            [splits(FOUR, 2), splits([0, 1, 2, 3], 3), how_many_bases(3, FOUR, 2), how_many_bases(3, FOUR, 3),
             telling_counts(3, FOUR, 2)],
            [[1], [1, 2], 3, 2, [0, 0, 3, 3, 1]])
        self.assertEqual(
            [all_bases(3, FOUR, 3), base_numbered(3, FOUR, 2, 2), telling_counts(3, [0, 4], 1)],
            [[[0, 1, 2], [1, 2, 4]], [1, 4], [0, 2, 1]])


class TestPutIn(unittest.TestCase):
    def check(self, code, bases):
        width, places, count = code
        for base in bases[:40]:
            for place in places:
                if place in base:
                    continue
                replaced = [other for other in base if sorted(set(base) - {other} | {place}) in bases]
                answer = put_in_for(width, places, count, base, place)
                self.assertEqual(answer, replaced)
                self.assertIs(len(answer) > 0, len(base) > 0)
        self.assertEqual(always_read(*code), [place for place in places if all(place in base for base in bases)])

    def test_listed(self):
        for code in CODES:
            self.check(code, bases_by_listing(*code))

    def test_larger_codes(self):
        _, codes = larger_codes(61, 4)
        for code in codes:
            many = item_count(*code)
            bases = [list(part) for part in combinations(code[1], many) if is_base(*code, list(part))]
            self.check(code, bases)

    def test_two_bases(self):
        _, codes = larger_codes(62, 2)
        for code in codes:
            many = item_count(*code)
            bases = [list(part) for part in combinations(code[1], many) if is_base(*code, list(part))][:30]
            for one, other in zip(bases, reversed(bases)):
                for place in set(other) - set(one):
                    self.assertTrue(set(put_in_for(*code, one, place)) - set(other))

    def test_edges(self):
        self.assertEqual(put_in_for(1, [0, 1], 1, [1], 0), [1])
        self.assertEqual(put_in_for(3, FOUR, 0, [], 4), [])
        self.assertEqual(always_read(64, [LAST], 1), [LAST])
        self.assertEqual(always_read(64, [LAST], 0), [])
        self.assertEqual(always_read(64, list(range(64)), GREATEST), list(range(64)))
        self.assertEqual(always_read(64, list(range(64)), 63), [])
        self.assertEqual(always_read(64, list(range(64)), 64), list(range(64)))
        self.assertEqual(put_in_for(64, list(range(64)), 32, list(range(32)), 32), [0])
        self.assertEqual(put_in_for(64, list(range(64)), 32, list(range(32)), 63), [31])
        self.assertEqual(put_in_for(64, list(range(64)), 3, [0, 1, 2], 3), [0, 1, 2])


class TestPrices(unittest.TestCase):
    def price_lists(self, chance, many):
        return [
            [chance.randint(0, 3) for _ in range(many)], [chance.randint(0, 40) for _ in range(many)], [0] * many,
            [7] * many, [GREATEST - chance.randint(0, 2) for _ in range(many)], list(range(many, 0, -1)),
            [chance.choice([0, GREATEST]) for _ in range(many)],
        ]

    def check(self, chance, code, bases, parts):
        places = code[1]
        for prices in self.price_lists(chance, len(places)):
            priced = dict(zip(places, prices))
            costs = [(sum(priced[place] for place in base), base) for base in bases]
            self.assertEqual(cheapest_base(*code, prices), min(costs))
            cheapest = [base for cost, base in costs if cost == min(costs)[0]]
            for part in parts:
                self.assertIs(is_cheapest(*code, prices, part), part in cheapest)

    def test_listed(self):
        chance = random.Random(63)
        for code in CODES:
            self.check(chance, code, bases_by_listing(*code), parts_of(code[1]))

    def test_larger_codes(self):
        chance, codes = larger_codes(64, 3)
        for code in codes:
            many = item_count(*code)
            bases = [list(part) for part in combinations(code[1], many) if is_base(*code, list(part))]
            self.check(chance, code, bases, chance.sample(bases, min(8, len(bases))) + [code[1]])

    def test_edges(self):
        self.assertEqual(cheapest_base(64, [LAST], 1, [GREATEST]), (GREATEST, [LAST]))
        self.assertEqual(cheapest_base(64, [LAST], 0, [GREATEST]), (0, []))
        self.assertEqual(cheapest_base(1, [0, 1], GREATEST, [0, 0]), (0, [0, 1]))
        self.assertIs(is_cheapest(64, [LAST], 0, [5], []), True)
        self.assertIs(is_cheapest(64, [LAST], 0, [0], [LAST]), False)
        neighbours = list(range(64))
        self.assertEqual(cheapest_base(64, neighbours, 3, [3] * 64), (9, [0, 1, 2]))
        self.assertEqual(cheapest_base(64, neighbours, 2, [3] * 62 + [0, 1]), (1, [62, 63]))

    def test_any_value(self):
        wrongs = ODD + [[0, 1], [1], [1, 2, 4], [2, 1], [2, 4], (1, 2), [1, 1], [True, 2], [1, 3], 0, GREATEST, [], [1, Unfit()]]
        check_judged(self, is_cheapest, [3, FOUR, 2, [5, 1, 2, 2]], [[1, 2], [1, 4]], wrongs)


class TestSplits(unittest.TestCase):
    def lists(self):
        chance = random.Random(65)
        small = [list(places) for many in [1, 2, 3] for places in combinations(range(8), many)]
        return small + [sorted(chance.sample(range(32), chance.randint(4, 8))) for _ in range(60)] + [list(range(8))]

    def test_listed(self):
        for places in self.lists():
            evens = [place for place in places if place % 2 == 0]
            odds = [place for place in places if place % 2]
            for j in range(len(places) + 1):
                best = best_parts(places, j)
                found = splits(places, j)
                self.assertEqual(found, sorted({len(set(part) & set(evens)) for part in best}))
                self.assertIn(len(found), [1, 2])
                together = [
                    sorted(low + high) for i in found for low in best_parts(evens, i) for high in best_parts(odds, j - i)
                ]
                self.assertEqual(sorted(together), best)

    def test_edges(self):
        self.assertEqual(splits([0], 0), [0])
        self.assertEqual(splits([0], 1), [1])
        self.assertEqual(splits([LAST], 1), [0])
        self.assertEqual([splits([0, 2, 8], j) for j in range(4)], [[0], [1], [2], [3]])
        self.assertEqual([splits([1, 3, LAST], j) for j in range(4)], [[0], [0], [0], [0]])
        neighbours = list(range(64))
        self.assertEqual([splits(neighbours, j) for j in [0, 1, 2, 63, 64]], [[0], [0, 1], [1], [31, 32], [32]])
        self.assertEqual(splits([0, 1, 2 ** 63, 2 ** 63 + 1], 3), [1, 2])
        self.assertEqual(splits([0, 2 ** 63, LAST], 2), [1])


class TestHowMany(unittest.TestCase):
    def check(self, code, bases):
        self.assertEqual(how_many_bases(*code), len(bases))
        self.assertEqual(all_bases(*code), bases)
        for number in sorted({*range(min(50, len(bases))), len(bases) - 1}):
            self.assertEqual(base_numbered(*code, number), bases[number])
        refused(self, base_numbered, [*code, len(bases)], InvalidNumber, len(bases))

    def test_listed(self):
        for code in CODES:
            telling = told_by_listing(*code)
            self.check(code, bases_by_listing(*code))
            sizes = [len(part) for part in telling]
            self.assertEqual(telling_counts(*code), [sizes.count(size) for size in range(len(code[1]) + 1)])

    def test_larger_codes(self):
        _, codes = larger_codes(66, 4)
        for code in codes:
            many = item_count(*code)
            self.check(code, best_parts(code[1], many))
            bases = [set(base) for base in best_parts(code[1], many)]
            counts = telling_counts(*code)
            for size in [0, 1, many, len(code[1]) - 1, len(code[1])]:
                telling = [part for part in combinations(code[1], size) if any(base <= set(part) for base in bases)]
                self.assertEqual(counts[size], len(telling))
            self.assertEqual(counts[:many], [0] * many)
            self.assertEqual(counts[many], len(bases))
            self.assertEqual(len(counts), len(code[1]) + 1)

    def test_all_lists_of_few_places(self):
        for width, most in [(2, 4), (3, 4)]:
            for places in [list(one) for many in range(1, most + 1) for one in combinations(range(2 ** width), many)]:
                for count in range(len(places) + 1):
                    many = item_count(width, places, count)
                    self.check((width, places, count), best_parts(places, many))

    def test_there_and_back(self):
        chance = random.Random(67)
        for places, count in [(JUST_2000, 4), (OVER_2000, 4), (list(range(64)), 31), ([2 ** k for k in range(64)], 5)]:
            total = how_many_bases(64, places, count)
            numbers = sorted({0, 1, total // 2, total - 1, chance.randrange(total)})
            bases = [base_numbered(64, places, count, number) for number in numbers]
            self.assertEqual(bases, sorted(bases))
            for base in bases:
                self.assertTrue(is_base(64, places, count, base))
            self.assertEqual(base_numbered(64, places, count, 0), cheapest_base(64, places, count, [0] * len(places))[1])
            refused(self, base_numbered, [64, places, count, total], InvalidNumber, total)

    def test_edges(self):
        self.assertEqual(all_bases(64, [LAST], 0), [[]])
        self.assertEqual(all_bases(64, [LAST], GREATEST), [[LAST]])
        self.assertEqual(base_numbered(64, [LAST], 0, 0), [])
        self.assertEqual(telling_counts(64, [LAST], 1), [0, 1])
        self.assertEqual(telling_counts(64, [LAST], 0), [1, 1])
        self.assertEqual(telling_counts(1, [0, 1], 1), [0, 2, 1])
        self.assertEqual(telling_counts(64, list(range(64)), 0)[32], 1832624140942590534)
        self.assertEqual(telling_counts(64, list(range(64)), 64), [0] * 64 + [1])
        self.assertEqual(how_many_bases(64, list(range(64)), 1), 64)
        self.assertEqual(how_many_bases(64, list(range(64)), 32), 2 ** 32)
        self.assertEqual(how_many_bases(64, list(range(64)), 2), 32 * 32)
        self.assertEqual(how_many_bases(64, [k * 2 ** 58 for k in range(64)], 2), 32 * 32)

    def test_at_most_2000(self):
        bases = all_bases(64, JUST_2000, 4)
        self.assertEqual(len(bases), 2000)
        self.assertEqual(bases, sorted(bases))
        self.assertEqual(len({tuple(base) for base in bases}), 2000)
        for number in [0, 1, 777, 1998, 1999]:
            self.assertEqual(base_numbered(64, JUST_2000, 4, number), bases[number])
        self.assertEqual(how_many_bases(64, OVER_2000, 4), 2001)
        for code, total in [((64, OVER_2000, 4), 2001), ((64, list(range(64)), 32), 2 ** 32)]:
            with self.assertRaises(TooMany) as caught:
                all_bases(*code)
            self.assertIs(caught.exception.__class__, TooMany)
            self.assertEqual(caught.exception.value, total)

    def test_ranks_of_bits(self):
        # a part is a base exactly if the bits of its places make no sum that is nothing
        for code in larger_codes(68, 1)[1]:
            rows = bit_rows(*code)
            bases = all_bases(*code)
            for base in bases[:20]:
                ats = [code[1].index(place) for place in base]
                sums = {0}
                for at in ats:
                    column = sum(row[at] << k for k, row in enumerate(rows))
                    self.assertNotIn(column, sums)
                    sums |= {one ^ column for one in sums}

    def test_least_twos(self):
        for code in larger_codes(69, 1)[1]:
            bases = all_bases(*code)
            least = min(all_twos(part) for part in combinations(code[1], len(bases[0])))
            self.assertEqual({all_twos(base) for base in bases}, {least})


class TestWrong(unittest.TestCase):
    CODE = [(InvalidWidth, NO_WIDTHS), (InvalidPlaces, no_places(3)), (InvalidNumber, NO_COUNTS)]

    def test_codes(self):
        for function in [always_read, how_many_bases, telling_counts, all_bases]:
            check_refusals(self, function, [3, FOUR, 2], self.CODE)

    def test_put_in(self):
        no_bases = no_parts(3, FOUR) + [[], [0, 2], [2, 4], [0], [1], [0, 1, 2], [1, 0], FOUR, [0, 1, 8], [1, 3]]
        no_outer = NO_COUNTS + [0, 1, 3, 5, 8, GREATEST]
        wrong = self.CODE + [(InvalidPlaces, no_bases), (InvalidNumber, no_outer)]
        check_refusals(self, put_in_for, [3, FOUR, 2, [0, 1], 4], wrong)
        no_bases = no_parts(3, FOUR) + [[0], [1, 2], FOUR]
        wrong = self.CODE + [(InvalidPlaces, no_bases), (InvalidNumber, NO_COUNTS + [3, 5])]
        check_refusals(self, put_in_for, [3, FOUR, 0, [], 4], wrong)
        # no place is outside of the base of all places
        for place in FOUR + [3, None]:
            refused(self, put_in_for, [4, FOUR, 4, FOUR[:], place], InvalidNumber, place)

    def test_prices(self):
        no_prices = ODD + [0, [], [1], [1] * 3, [1] * 5, [1, 1, 1, -1], [1, 1, True, 1], [None] * 4, [1, 1, 1, "1"]]
        no_prices += [(1, 1, 1, 1), {0: 1, 1: 1, 2: 1, 4: 1}, [[1]] * 4, [1, 1, 1, -GREATEST], [1, Unfit(), 1, 1]]
        wrong = self.CODE + [(InvalidPrices, no_prices)]
        check_refusals(self, cheapest_base, [3, FOUR, 2, [5, 1, 2, 2]], wrong)
        for value in [[1, 2], [0], None]:
            check_refusals(self, is_cheapest, [3, FOUR, 2, [5, 1, 2, 2], value], wrong)

    def test_splits(self):
        wrong = [(InvalidPlaces, no_places(64)), (InvalidNumber, NO_COUNTS + [5, 6, GREATEST])]
        check_refusals(self, splits, [FOUR, 2], wrong)

    def test_numbers(self):
        wrong = self.CODE + [(InvalidNumber, NO_COUNTS + [3, 4, GREATEST])]
        check_refusals(self, base_numbered, [3, FOUR, 2, 2], wrong)


if __name__ == "__main__":
    unittest.main()
