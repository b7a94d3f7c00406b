import random
import unittest
from itertools import product

from anyplaces.alarms import unseen
from anyplaces.checks import alarm, alarms, check_of, check_parts, how_many_checks, is_check, triangle
from anyplaces.codes import is_codeword, misfit
from anyplaces.distance import distance
from anyplaces.errors import InvalidItems, InvalidNumber, InvalidPlaces, InvalidWidth, InvalidWords, Unfit
from anyplaces.orders import good_order
from anyplaces.sizes import codeword_at, how_many_codewords, item_count
from tests.plain import all_codewords, all_words
from tests.test_codes import random_code
from tests.test_telling import CODES
from tests.wrong import GREATEST, NO_COUNTS, NO_WIDTHS, ODD, check_judged, check_refusals, no_places, no_words, refused

FOUR = [0, 1, 2, 4]
LAST = 2 ** 64 - 1


def summed(width, words, factors):
    return sum(word * factor for word, factor in zip(words, factors)) % 2 ** width


def listed_checks(code):
    """All lists of factors with which all codewords add up to 0."""
    width, places, _ = code
    listed = sorted(all_codewords(*code))
    return [factors for factors in all_words(width, places) if not any(summed(width, words, factors) for words in listed)]


def steps_of(code):
    """The steps of the places in their good order."""
    width, places, _ = code
    many = item_count(*code)
    return [2 ** (width - number) if k < many else 1 for k, number in enumerate(good_order(width, places)[1])]


def is_triangle_check(code, k, factors):
    """Whether factors stand as those of the check of the triangle with the number k have to."""
    width, places, _ = code
    order = good_order(width, places)[0]
    told = dict(zip(places, factors))
    steps = steps_of(code)
    ahead = all(told[order[j]] < steps[j] for j in range(k))
    return ahead and told[order[k]] == steps[k] % 2 ** width and not any(told[place] for place in order[k + 1:])


def part_ends(code):
    return [2 ** code[0] // step for step in steps_of(code)]


def taken_times(code, parts):
    """The sum of the checks of the triangle, each so many times."""
    rows = triangle(*code)
    return [sum(part * row[at] for part, row in zip(parts, rows)) % 2 ** code[0] for at in range(len(code[1]))]


def large_codes(seed, many):
    chance = random.Random(seed)
    codes = [random_code(chance, width) for width in [1, 2, 4, 8, 20, 64] * many]
    codes += [(64, list(range(64)), 40), (64, list(range(64)), 0), (64, [k * 2 ** 58 for k in range(64)], GREATEST)]
    return codes + [(3, list(range(8)), 5), (6, list(range(10, 40)), 9), (64, [0, LAST], 2), (64, [0, 2 ** 63], 2)]


class TestExamples(unittest.TestCase):
    def test_checks(self):
        self.assertEqual(
            [how_many_checks(3, FOUR, 2), how_many_checks(3, FOUR, 3), is_check(3, FOUR, 2, [1, 6, 1, 0]),
             is_check(3, FOUR, 3, [1, 6, 1, 0]), is_check(3, FOUR, 3, [0, 0, 0, 0])],
            [64, 16, True, False, True])

    def test_triangles(self):
        self.assertEqual(
            [triangle(3, FOUR, 2), triangle(3, FOUR, 3)],
            [[[0, 0, 0, 0], [0, 0, 0, 0], [1, 6, 1, 0], [3, 4, 0, 1]],
             [[0, 0, 0, 0], [0, 0, 0, 0], [4, 0, 4, 0], [5, 0, 2, 1]]])
        self.assertEqual(
            [check_parts(3, FOUR, 3, [2, 0, 4, 2]), check_of(3, FOUR, 3, [0, 0, 1, 2]),
             check_parts(3, FOUR, 2, [4, 2, 1, 1])],
            [[0, 0, 0, 2], [6, 0, 0, 2], [0, 0, 1, 1]])

    def test_alarms(self):
        self.assertEqual(
            [alarm(3, FOUR, 2, [0, 1, 2, 4]), alarm(3, FOUR, 2, [0, 1, 3, 4]), alarms(3, FOUR, 2, [0, 1, 3, 5]),
             alarm(3, FOUR, 3, [0, 1, 1, 0])],
            [None, (2, 1), [0, 0, 1, 1], (2, 4)])


class TestListed(unittest.TestCase):
    def test_all_factors(self):
        for code in CODES:
            checks = set(listed_checks(code))
            self.assertEqual(how_many_checks(*code), len(checks))
            for factors in all_words(*code[:2]):
                self.assertIs(is_check(*code, list(factors)), factors in checks)

    def test_codewords_by_checks(self):
        for code in CODES:
            if code[0] * len(code[1]) > 9:
                continue
            checks = listed_checks(code)
            for words in all_words(*code[:2]):
                meets = not any(summed(code[0], words, factors) for factors in checks)
                self.assertIs(is_codeword(*code, list(words)), meets)

    def test_one_triangle(self):
        for code in CODES:
            checks = listed_checks(code)
            rows = triangle(*code)
            self.assertEqual(len(rows), len(code[1]))
            for k, row in enumerate(rows):
                self.assertEqual([list(one) for one in checks if is_triangle_check(code, k, one)], [row])

    def test_last_places(self):
        for code in CODES:
            order = good_order(*code[:2])[0]
            steps = steps_of(code)
            for factors in listed_checks(code):
                told = dict(zip(code[1], factors))
                last = [k for k, place in enumerate(order) if told[place]][-1:]
                self.assertTrue(all(told[order[k]] % steps[k] == 0 for k in last))

    def test_parts(self):
        for code in CODES:
            made = {}
            for parts in product(*[range(end) for end in part_ends(code)]):
                factors = check_of(*code, list(parts))
                self.assertEqual(factors, taken_times(code, parts))
                self.assertEqual(check_parts(*code, factors), list(parts))
                made[tuple(factors)] = made.get(tuple(factors), 0) + 1
            # each check in just one way
            self.assertEqual(made, {factors: 1 for factors in listed_checks(code)})

    def test_alarms(self):
        for code in CODES:
            width, places, _ = code
            listed = all_codewords(*code)
            order = good_order(width, places)[0]
            rows = triangle(*code)
            for words in all_words(width, places):
                words = list(words)
                sums = [summed(width, words, row) for row in rows]
                self.assertEqual(alarms(*code, words), sums)
                first = [(k, told) for k, told in enumerate(sums) if told][:1]
                self.assertEqual(alarm(*code, words), first[0] if first else None)
                self.assertIs(alarm(*code, words) is None, tuple(words) in listed)
                place = misfit(*code, words)
                self.assertEqual(None if not first else order[first[0][0]], place)

    def test_same_alarms(self):
        for code in CODES:
            width, places, _ = code
            if width * len(places) > 9:
                continue
            listed = sorted(all_codewords(*code))
            together = {}
            for words in all_words(width, places):
                together.setdefault(tuple(alarms(*code, list(words))), set()).add(words)
            for group in together.values():
                one = min(group)
                added = {tuple((a + b) % 2 ** width for a, b in zip(one, words)) for words in listed}
                self.assertEqual(group, added)


class TestLargerCodes(unittest.TestCase):
    def test_triangles(self):
        for code in large_codes(131, 6):
            for k, row in enumerate(triangle(*code)):
                self.assertIs(is_check(*code, row), True)
                self.assertTrue(is_triangle_check(code, k, row))

    def test_there_and_back(self):
        chance = random.Random(132)
        for code in large_codes(133, 6):
            ends = part_ends(code)
            total = 1
            for end in ends:
                total *= end
            self.assertEqual(how_many_checks(*code), total)
            self.assertEqual(total * how_many_codewords(*code), 2 ** (code[0] * len(code[1])))
            for parts in [[chance.randrange(end) for end in ends], [end - 1 for end in ends], [0] * len(ends)]:
                factors = check_of(*code, parts)
                self.assertEqual(factors, taken_times(code, parts))
                self.assertEqual(check_parts(*code, factors), parts)
                self.assertIs(is_check(*code, factors), True)
                words = codeword_at(*code, chance.randrange(how_many_codewords(*code)))
                self.assertEqual(summed(code[0], words, factors), 0)

    def test_changed_factors(self):
        chance = random.Random(134)
        for code in large_codes(135, 4):
            width, places, _ = code
            factors = check_of(*code, [chance.randrange(end) for end in part_ends(code)])
            at = chance.randrange(len(places))
            for change in [1, 2 ** (width - 1), chance.randint(1, 2 ** width - 1)]:
                changed = list(factors)
                changed[at] = (changed[at] + change) % 2 ** width
                words = [codeword_at(*code, chance.randrange(how_many_codewords(*code))) for _ in range(6)]
                if any(summed(width, one, changed) for one in words):
                    self.assertIs(is_check(*code, changed), False)
                    refused(self, check_parts, [*code, changed], InvalidWords, changed)

    def test_alarms(self):
        chance = random.Random(136)
        for code in large_codes(137, 6):
            width, places, _ = code
            order = good_order(width, places)[0]
            words = codeword_at(*code, chance.randrange(how_many_codewords(*code)))
            self.assertEqual(alarms(*code, words), [0] * len(places))
            self.assertIsNone(alarm(*code, words))
            rows = triangle(*code)
            for _ in range(4):
                change = [chance.choice([0, 1, 2 ** (width - 1), chance.getrandbits(width)]) for _ in places]
                wrong = [(a + b) % 2 ** width for a, b in zip(words, change)]
                sums = [summed(width, change, row) for row in rows]
                self.assertEqual(alarms(*code, wrong), sums)
                self.assertEqual(alarms(*code, change), sums)
                place = misfit(*code, wrong)
                told = alarm(*code, wrong)
                self.assertIs(told is None, is_codeword(*code, wrong))
                if told is not None:
                    self.assertEqual((order[told[0]], sums[told[0]]), (place, told[1]))

    def test_changes_of_one_word(self):
        for code in large_codes(138, 2):
            least = distance(*code)
            if len(code[1]) <= 12:
                unseens = [unseen(*code, place) for place in code[1]]
                self.assertIs(least is None or least >= 2, unseens == [None] * len(unseens))


class TestEdges(unittest.TestCase):
    def test_one_place(self):
        self.assertEqual(triangle(64, [LAST], 1), [[0]])
        self.assertEqual(triangle(64, [LAST], GREATEST), [[0]])
        self.assertEqual(triangle(64, [LAST], 0), [[1]])
        self.assertEqual(triangle(1, [0], 0), [[1]])
        self.assertEqual([how_many_checks(64, [LAST], count) for count in [0, 1, GREATEST]], [2 ** 64, 1, 1])
        self.assertEqual(check_of(64, [LAST], 0, [LAST]), [LAST])
        self.assertEqual(check_parts(64, [LAST], 0, [LAST]), [LAST])
        self.assertEqual(check_parts(64, [LAST], 1, [0]), [0])
        self.assertEqual(alarm(64, [LAST], 0, [LAST]), (0, LAST))
        self.assertEqual(alarm(64, [LAST], 0, [0]), None)
        self.assertEqual(alarms(64, [LAST], 1, [LAST]), [0])

    def test_no_items(self):
        # every list is a check, and the triangle has one factor 1 in each row
        self.assertEqual(triangle(3, FOUR, 0), [[1, 0, 0, 0], [0, 1, 0, 0], [0, 0, 1, 0], [0, 0, 0, 1]])
        self.assertIs(is_check(3, FOUR, 0, [7, 0, 3, 1]), True)
        self.assertEqual(check_parts(3, [0, 2, 5], 0, [1, 2, 3]), [1, 3, 2])
        self.assertEqual(alarms(3, [0, 2, 5], 0, [1, 2, 3]), [1, 3, 2])
        self.assertEqual(alarm(3, [0, 2, 5], 0, [0, 2, 3]), (1, 3))

    def test_all_words_are_codewords(self):
        neighbours = [0, 1]
        self.assertEqual(triangle(64, neighbours, 2), [[0, 0], [0, 0]])
        self.assertEqual(how_many_checks(64, neighbours, 2), 1)
        self.assertIs(is_check(64, neighbours, 2, [0, 1]), False)
        self.assertEqual(check_parts(64, neighbours, 2, [0, 0]), [0, 0])

    def test_width_one(self):
        self.assertEqual(triangle(1, [0, 1], 1), [[0, 0], [1, 1]])
        self.assertEqual(how_many_checks(1, [0, 1], 1), 2)
        self.assertEqual(alarm(1, [0, 1], 1, [1, 0]), (1, 1))

    def test_even_steps(self):
        # 2 items of 64 and 6 bits; the words at the first two places tell the others
        steps = [k * 2 ** 58 for k in range(64)]
        rows = triangle(64, steps, GREATEST)
        self.assertEqual(rows[0], [0] * 64)
        self.assertEqual(rows[1][:2], [2 ** 64 - 2 ** 6, 2 ** 6])
        for place, row in list(zip(good_order(64, steps)[0], rows))[2:]:
            self.assertEqual([at for at in range(2, 64) if row[at]], [steps.index(place)])
            self.assertEqual(row[steps.index(place)], 1)
        self.assertEqual(how_many_checks(64, steps, 64), 2 ** (64 * 64 - 64 - 6))

    def test_good_order_not_that_of_places(self):
        # the good order is 0, 5, 2, 9
        spread = [0, 2, 5, 9]
        rows = triangle(4, spread, 2)
        self.assertEqual([row[1] for row in rows], [0, 0, 1, 0])
        self.assertEqual([row[3] for row in rows], [0, 0, 0, 1])
        self.assertEqual(alarm(4, spread, 2, [1, 2, 6, 10])[0], 2)


class TestWrong(unittest.TestCase):
    CODE = [(InvalidWidth, NO_WIDTHS), (InvalidPlaces, no_places(3)), (InvalidNumber, NO_COUNTS)]

    def test_codes(self):
        for function in [how_many_checks, triangle]:
            check_refusals(self, function, [3, FOUR, 2], self.CODE)
            check_refusals(self, function, [3, FOUR, 0], self.CODE)
        for value in [[1, 6, 1, 0], None]:
            check_refusals(self, is_check, [3, FOUR, 2, value], self.CODE)

    def test_any_value(self):
        wrongs = no_words(3, 4) + [[], [1, 6, 1, 1], [1, 6, 0, 0], [0, 0, 0, 1], (1, 6, 1, 0), [1, 6, 1, False],
                                   [1, -2, 1, 0], [9, 6, 1, 0], [1, 6, 1], [1, 6, 1, 0, 0]]
        check_judged(self, is_check, [3, FOUR, 2], [[0, 0, 0, 0], [1, 6, 1, 0], [3, 4, 0, 1], [4, 2, 1, 1]], wrongs)
        check_judged(self, is_check, [3, FOUR, 0], [[0, 0, 0, 0], [7, 7, 7, 7]], no_words(3, 4))

    def test_words(self):
        for function in [alarm, alarms]:
            for count in [0, 2, 9]:
                wrong = self.CODE + [(InvalidWords, no_words(3, 4) + [[]])]
                check_refusals(self, function, [3, FOUR, count, [0, 1, 3, 4]], wrong)

    def test_checks(self):
        wrong = no_words(3, 4) + [[], [1, 6, 1, 1], [1, 6, 0, 0], [0, 0, 0, 1], (1, 6, 1, 0), [1, 6, 1, False]]
        check_refusals(self, check_parts, [3, FOUR, 2, [1, 6, 1, 0]], self.CODE + [(InvalidWords, wrong)])

    def test_parts(self):
        # numbers below 1, 1, 2 and 8
        wrong = ODD + [
            [], 0, [0], [0] * 3, [0] * 5, (0, 0, 0, 0), [1, 0, 0, 0], [0, 1, 0, 0], [0, 0, 2, 0], [0, 0, 0, 8],
            [-1, 0, 0, 0], [0, 0, 0, -1], [True, 0, 0, 0], [0, 0, True, 0], [0, 0, 0, None], [0, 0, 0, "0"],
            [0, 0, 0, [0]], [0, 0, 0, (0,)], [0, 0, 0, Unfit()], [0, 0, 0, GREATEST], {0: 0, 1: 0, 2: 0, 3: 0}, "0000",
        ]
        self.assertEqual(part_ends((3, FOUR, 3)), [1, 1, 2, 8])
        check_of(3, FOUR, 3, [0, 0, 1, 7])
        check_refusals(self, check_of, [3, FOUR, 3, [0, 0, 1, 7]], self.CODE + [(InvalidItems, wrong)])
        check_refusals(self, check_of, [3, FOUR, 0, [7] * 4], self.CODE + [(InvalidItems, [[0] * 3, [0, 0, 0, 8], None])])


if __name__ == "__main__":
    unittest.main()
