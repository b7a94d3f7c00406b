import random
import unittest
from itertools import combinations

from anyplaces.alike import are_alike, exchange, first_alike, how_many_alike, parting_level
from anyplaces.errors import InvalidPlaces, InvalidWidth
from anyplaces.orders import good_order
from anyplaces.sizes import how_many_codewords
from anyplaces.telling import is_base, is_telling
from tests.plain import alike_down_to, exchanges, first_arrangement, form_of, lists_of_places, twos
from tests.wrong import NO_WIDTHS, check_refusals, no_places


def pairs_to_try():
    """Pairs of lists of few places, alike and not, of the width 4."""
    chance = random.Random(21)
    pairs = []
    for many in [1, 2, 3, 4, 5, 6]:
        for _ in range(14):
            one = sorted(chance.sample(range(16), many))
            pairs.append((one, sorted(chance.sample(range(16), many))))
            changed = [place ^ chance.choice([0, 8, 8, 4]) for place in one]
            if len(set(changed)) == many:
                pairs.append((one, sorted(changed)))
            factor, step = chance.choice([1, 3, 5, 7]), chance.randrange(16)
            pairs.append((one, sorted((factor * place + step) % 16 for place in one)))
    return pairs


def larger_pairs():
    """Pairs of lists of some more places, alike and nearly so, with their widths."""
    chance = random.Random(25)
    pairs = []
    for width, many in [(4, 9), (4, 12), (5, 10), (6, 8), (64, 9), (64, 12)] * 8:
        shift = chance.choice([0, 0, width - 4])
        one = sorted({chance.getrandbits(4 if shift else width) << shift for _ in range(many)})
        factor, step = 2 * chance.getrandbits(width - 1) + 1, chance.getrandbits(width)
        other = [(factor * place + step) % 2 ** width for place in one]
        pairs.append((width, one, sorted(other)))
        other[-1] ^= 2 ** chance.randrange(width)
        if len(set(other)) == len(one):
            pairs.append((width, one, sorted(other)))
    return pairs


def unlike_levels(width, one, other):
    """The levels down to which places are not alike."""
    ours, theirs = dict.fromkeys(one, 0), dict.fromkeys(other, 0)
    return [level for level in range(width + 1) if form_of(level, ours) != form_of(level, theirs)]


class TestExamples(unittest.TestCase):
    def test_alike(self):
        self.assertEqual(
            [are_alike(3, [0, 1, 2, 4], [3, 4, 5, 7]), exchange(3, [0, 1, 2, 4], [3, 4, 5, 7]),
             are_alike(4, [0, 1, 2, 4], [0, 1, 2, 9])],
            [True, [3, 4, 5, 7], False])
        self.assertEqual(
            [parting_level(4, [0, 1, 2, 4], [0, 1, 2, 9]), parting_level(4, [0], [0, 1]),
             parting_level(3, [0, 4], [1, 3]), parting_level(3, [0, 4], [1, 5])],
            [1, 0, 2, None])
        self.assertEqual(
            [how_many_alike(4, [0, 1, 2, 4]), how_many_alike(3, [0, 1, 2, 3]), first_alike(3, [3, 4, 5, 7])],
            [512, 16, [0, 1, 2, 4]])


class TestExchange(unittest.TestCase):
    def test_all_arrangements(self):
        found = 0
        for one, other in pairs_to_try():
            listed = exchanges(one, other)
            found += len(listed) > 0
            self.assertIs(are_alike(4, one, other), len(listed) > 0)
            self.assertEqual(exchange(4, one, other), min(listed) if listed else None)
            self.assertEqual(exchange(64, one, other), min(listed) if listed else None)
            self.assertEqual(first_arrangement(4, one, other), min(listed) if listed else None)
        self.assertGreater(found, 50)

    def test_all_of_width_three(self):
        lists = lists_of_places(3, [3])
        for one in lists:
            for other in lists:
                listed = exchanges(one, other)
                self.assertEqual(exchange(3, one, other), listed[0] if listed else None)

    def test_and_its_opposite(self):
        for one, other in pairs_to_try():
            theirs = exchange(4, one, other)
            if theirs is None:
                self.assertIsNone(exchange(4, other, one))
                continue
            back = [one[theirs.index(place)] for place in other]
            self.assertIn(back, exchanges(other, one))
            self.assertLessEqual(exchange(4, other, one), back)

    def test_in_turn(self):
        found = 0
        for width, one, other in larger_pairs():
            first = first_arrangement(width, one, other)
            found += first is not None
            self.assertEqual(exchange(width, one, other), first)
            self.assertIs(are_alike(width, one, other), first is not None)
        self.assertTrue(48 <= found < len(larger_pairs()))

    def test_many_places(self):
        chance = random.Random(22)
        one = sorted({chance.getrandbits(64) for _ in range(64)})
        other = sorted((3 * place + 11) % 2 ** 64 for place in one)
        theirs = exchange(64, one, other)
        self.assertEqual(sorted(theirs), other)
        for (place, partner), (place_too, partner_too) in combinations(list(zip(one, theirs)), 2):
            self.assertEqual(twos(place - place_too), twos(partner - partner_too))

    def test_edges(self):
        last = 2 ** 64 - 1
        self.assertEqual(exchange(64, [0], [last]), [last])
        self.assertEqual(exchange(1, [0, 1], [0, 1]), [0, 1])
        self.assertIsNone(exchange(3, [0], [0, 1]))
        self.assertIsNone(exchange(3, [0, 1], [0]))
        self.assertEqual(exchange(64, list(range(64)), list(range(64))), list(range(64)))
        self.assertEqual(exchange(64, [0, 1, 2 ** 63], [5, 2 ** 63 + 4, 2 ** 63 + 5]), [5, 2 ** 63 + 4, 2 ** 63 + 5])
        self.assertIs(are_alike(64, [0, 2 ** 63], [0, 2 ** 62]), False)

    def test_what_alike_places_share(self):
        for one, other in pairs_to_try():
            theirs = exchange(4, one, other)
            if theirs is None:
                continue
            self.assertEqual(good_order(4, one)[1], good_order(4, other)[1])
            for count in range(len(one) + 1):
                self.assertEqual(how_many_codewords(4, one, count), how_many_codewords(4, other, count))
                for many in range(len(one) + 1):
                    for part in combinations(range(len(one)), many):
                        ours = [one[k] for k in part]
                        belonging = sorted(theirs[k] for k in part)
                        self.assertIs(is_telling(4, one, count, ours), is_telling(4, other, count, belonging))
                        self.assertIs(is_base(4, one, count, ours), is_base(4, other, count, belonging))


class TestPartingLevel(unittest.TestCase):
    def test_all_arrangements(self):
        levels = {}
        for one, other in pairs_to_try():
            if len(one) < 6:
                unlike = [level for level in range(5) if not alike_down_to(level, one, other)]
                # the plain means of the larger pairs are checked here, too
                self.assertEqual(unlike_levels(4, one, other), unlike)
                level = parting_level(4, one, other)
                self.assertEqual(level, unlike[0] if unlike else None)
                self.assertIs(level is None, are_alike(4, one, other))
                levels[level] = True
        self.assertEqual(set(levels), {None, 1, 2, 3})

    def test_each_level(self):
        levels = {}
        for width, one, other in larger_pairs():
            unlike = unlike_levels(width, one, other)
            self.assertEqual(parting_level(width, one, other), unlike[0] if unlike else None)
            # what is not alike down to a level is so down to no greater one
            self.assertEqual(unlike, list(range(width + 1 - len(unlike), width + 1)))
            levels[unlike[0] if unlike else None] = True
        self.assertGreater(len(levels), 5)

    def test_unlike_numbers_of_places(self):
        for width in [2, 3, 64]:
            self.assertEqual(parting_level(width, [0, 1], [0, 1, 2]), 0)
            self.assertEqual(parting_level(width, [0, 1, 2], [3]), 0)

    def test_edges(self):
        self.assertIsNone(parting_level(1, [0], [1]))
        self.assertIsNone(parting_level(64, [0], [2 ** 64 - 1]))
        self.assertEqual(parting_level(64, [0, 2 ** 63], [0, 2 ** 62]), 63)
        self.assertEqual(parting_level(64, [0, 2 ** 61], [0, 1]), 1)
        self.assertEqual(parting_level(64, [0, 1], [0, 2 ** 61]), 1)


class TestHowManyAndFirst(unittest.TestCase):
    def test_listed(self):
        for width in [1, 2, 3]:
            for many in range(1, min(2 ** width, 6) + 1):
                lists = lists_of_places(width, [many])
                for places in lists:
                    alike = [other for other in lists if exchanges(places, other)]
                    self.assertEqual(how_many_alike(width, places), len(alike))
                    self.assertEqual(first_alike(width, places), alike[0])

    def test_some_of_width_four(self):
        chance = random.Random(23)
        for many in [2, 3, 4]:
            lists = lists_of_places(4, [many])
            for places in chance.sample(lists, 6):
                alike = [other for other in lists if exchanges(places, other)]
                self.assertEqual(how_many_alike(4, places), len(alike))
                self.assertEqual(first_alike(4, places), alike[0])

    def test_added_and_multiplied(self):
        chance = random.Random(24)
        for width in [5, 9, 40, 64]:
            for many in [1, 3, 12, 20]:
                places = sorted({chance.getrandbits(width) for _ in range(many)})
                step, factor = chance.getrandbits(width), 2 * chance.getrandbits(width - 1) + 1
                other = sorted((factor * place + step) % 2 ** width for place in places)
                self.assertTrue(are_alike(width, places, other))
                self.assertEqual(first_alike(width, places), first_alike(width, other))
                self.assertEqual(how_many_alike(width, places), how_many_alike(width, other))

    def test_equal_exactly_if_alike(self):
        for one, other in pairs_to_try():
            self.assertIs(first_alike(4, one) == first_alike(4, other), are_alike(4, one, other))
            self.assertTrue(are_alike(4, one, first_alike(4, one)))
            self.assertLessEqual(first_alike(4, one), one)

    def test_edges(self):
        last = 2 ** 64 - 1
        self.assertEqual(how_many_alike(64, [last]), 2 ** 64)
        self.assertEqual(first_alike(64, [last]), [0])
        self.assertEqual(how_many_alike(1, [0, 1]), 1)
        self.assertEqual(how_many_alike(1, [1]), 2)
        self.assertEqual(how_many_alike(64, [0, 2 ** 63]), 2 ** 63)
        self.assertEqual(first_alike(64, [2 ** 63 - 1, last]), [0, 2 ** 63])
        self.assertEqual(how_many_alike(6, list(range(64))), 1)
        self.assertEqual(first_alike(64, list(range(64))), list(range(64)))
        self.assertEqual(first_alike(64, [k * 2 ** 58 + 5 for k in range(64)]), [k * 2 ** 58 for k in range(64)])
        self.assertEqual(how_many_alike(64, list(range(64))), 2 ** (58 * 64))


class TestWrong(unittest.TestCase):
    def test_two_lists(self):
        wrong = [(InvalidWidth, NO_WIDTHS), (InvalidPlaces, no_places(3)), (InvalidPlaces, no_places(3))]
        for function in [are_alike, exchange, parting_level]:
            check_refusals(self, function, [3, [0, 5], [1, 2]], wrong)
            # unlike numbers of places are no reason not to look at the second list
            check_refusals(self, function, [3, [0, 5, 6], [1, 2]], wrong)

    def test_one_list(self):
        wrong = [(InvalidWidth, NO_WIDTHS), (InvalidPlaces, no_places(3))]
        for function in [how_many_alike, first_alike]:
            check_refusals(self, function, [3, [0, 5]], wrong)


if __name__ == "__main__":
    unittest.main()
