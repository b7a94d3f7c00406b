import random
import unittest
from itertools import combinations

from anyplaces.bits import bits_told
from anyplaces.errors import InvalidNumber, InvalidPlaces, InvalidWidth, Unfit
from anyplaces.helpers import fewest_helpers, follows, helpers, is_helpers, reach, steps_needed
from anyplaces.orders import good_order
from tests.plain import all_codewords, parts_of, product_of, twos, words_at_part
from tests.test_codes import random_code
from tests.test_telling import CODES
from tests.wrong import GREATEST, NO_COUNTS, NO_WIDTHS, ODD, check_judged, check_refusals, no_parts, no_places

SPOTS = [0, 1, 2, 4, 5]
LAST = 2 ** 64 - 1
# beyond all sums of levels that occur here
FAR = 1000


def told_whole(code, listed, asked, place):
    """Whether codewords with the same words at the asked places always have the same word at a place."""
    at = code[1].index(place)
    both = {(words_at_part(words, code[1], asked), words[at]) for words in listed}
    return len(both) == len({words for words, _ in both})


def taken_by_rule(width, count, allowed, place):
    """What point 35 takes, in turn, step by step, and whether it ends as helpers."""
    taken = []

    def ended():
        return len(taken) == count or sum(twos(a - place) for a in taken) >= width

    if count == 0:
        return taken, True
    for level in sorted({twos(a - place) for a in allowed}, reverse=True):
        of_level = [a for a in allowed if twos(a - place) == level]
        here = []
        room = sum(twos(a - place) - level for a in taken)
        while len(here) < len(of_level):
            costs = {a: sum(twos(a - b) - level for b in here) for a in of_level if a not in here}
            least = min(costs.values())
            if least > room:
                break
            a = min(other for other, cost in costs.items() if cost == least)
            here.append(a)
            taken.append(a)
            if ended():
                return taken, True
    return taken, False


def tells_at(width, count, asked, place):
    """The rule of point 30 for a word to be told whole, for any width at all."""
    order, numbers = good_order(64, asked) if asked else ([], [])

    def worth(k):
        product = product_of(order[:k], place)
        return twos(product) if product else FAR

    told = all(worth(k) >= min(numbers[k], width) for k in range(min(count, len(asked))))
    return told and (len(asked) >= count or worth(len(asked)) >= width)


class TestExamples(unittest.TestCase):
    def test_helpers(self):
        self.assertEqual(
            [helpers(3, SPOTS, 3, [1, 2, 4, 5], 0), helpers(4, SPOTS, 3, [1, 2, 4, 5], 0),
             helpers(3, SPOTS, 3, [0, 4], 2), fewest_helpers(3, SPOTS, 0, [], 4)],
            [[2, 4], [1, 2, 4], None, 0])
        self.assertEqual(
            [follows(3, SPOTS, 3, [2, 4], 0), follows(3, SPOTS, 3, [0, 4], 2),
             is_helpers(3, SPOTS, 3, [1, 2, 4, 5], 0, [2, 4]), is_helpers(3, SPOTS, 3, [1, 2, 4, 5], 0, [1, 2, 4])],
            [True, False, True, False])

    def test_reach_and_steps(self):
        self.assertEqual(
            [reach(SPOTS, 3, [1, 2, 4, 5], 0), reach(SPOTS, 9, [1, 2, 4, 5], 0), reach(SPOTS, 9, [0, 4], 2),
             reach(SPOTS, 0, [], 2)],
            [[0, 2, 3, None], [0, 2, 3, 3, 3], [0, 1], [None]])
        self.assertEqual(
            [steps_needed(64, 66, 16), steps_needed(64, 66, 0), steps_needed(3, 3, 1), steps_needed(8, 2, 1),
             steps_needed(9, 0, 3)],
            [4, 66, 2, 2, 0])


class TestFewest(unittest.TestCase):
    def check(self, code, allowed, place, telling):
        """telling: all parts of the allowed places from which the word follows."""
        fewest = min([len(part) for part in telling], default=None)
        self.assertIs(follows(*code, allowed, place), fewest is not None)
        self.assertEqual(fewest_helpers(*code, allowed, place), fewest)
        taken, ended = taken_by_rule(code[0], code[2], allowed, place)
        self.assertIs(ended, fewest is not None)
        self.assertEqual(helpers(*code, allowed, place), sorted(taken) if ended else None)
        if ended:
            self.assertIn(sorted(taken), telling)
        for part in parts_of(allowed):
            self.assertIs(is_helpers(*code, allowed, place, part), part in telling and len(part) == fewest)

    def test_listed(self):
        for code in CODES:
            places = code[1]
            listed = all_codewords(*code)
            for place in places:
                others = [other for other in places if other != place]
                telling = [part for part in parts_of(others) if told_whole(code, listed, part, place)]
                for allowed in parts_of(others):
                    self.check(code, allowed, place, [part for part in telling if set(part) <= set(allowed)])

    def test_larger_codes(self):
        chance = random.Random(91)
        codes = [(4, list(range(8)), 5), (5, list(range(0, 16, 2)), 4), (6, [0, 1, 3, 7, 15, 31, 33], 3), (3, list(range(8)), 9)]
        codes += [(64, [k * 2 ** 60 for k in range(8)], 8), (7, [0, 16, 32, 48, 64, 80, 1], 6)]
        for code in [(w, sorted(p), c) for w, p, c in codes] + [random_code(chance, width) for width in [4, 5, 8, 64] * 6]:
            places = code[1][:8]
            code = (code[0], places, code[2])
            for place in chance.sample(places, min(3, len(places))):
                others = [other for other in places if other != place]
                allowed = sorted(chance.sample(others, chance.randint(0, len(others))))
                telling = [part for part in parts_of(allowed) if bits_told(*code, part, place) == code[0]]
                self.check(code, allowed, place, telling)

    def test_all_other_words(self):
        for width in [3, 4, 5, 6]:
            places = list(range(2 ** width))
            for place in places[::5]:
                others = [other for other in places if other != place]
                self.assertEqual(fewest_helpers(width, places, 9, others, place), 2)
                self.assertEqual(fewest_helpers(width, places, 1, others, place), 1)

    def test_edges(self):
        self.assertIsNone(helpers(64, [LAST], 1, [], LAST))
        self.assertIsNone(fewest_helpers(64, [LAST], GREATEST, [], LAST))
        self.assertEqual(helpers(64, [LAST], 0, [], LAST), [])
        self.assertIs(is_helpers(64, [LAST], 0, [], LAST, []), True)
        self.assertIs(is_helpers(64, [LAST], 1, [], LAST, []), False)
        self.assertEqual(helpers(1, [0, 1], 1, [0], 1), [0])
        self.assertIsNone(helpers(1, [0, 1], 2, [0], 1))
        self.assertEqual(helpers(64, [0, 2 ** 63], 1, [0], 2 ** 63), [0])
        # count 0 asks for no helpers, whatever is allowed
        self.assertEqual(helpers(3, SPOTS, 0, [1, 2], 0), [])
        neighbours = list(range(64))
        self.assertEqual(helpers(64, neighbours, 3, neighbours[1:], 0), [16, 32, 48])
        self.assertEqual(fewest_helpers(64, neighbours, 40, neighbours[1:], 0), 40)
        self.assertEqual(fewest_helpers(57, neighbours, 40, neighbours[1:], 0), 31)
        self.assertIsNone(fewest_helpers(58, neighbours, GREATEST, neighbours[:-1], 63))
        steps = [k * 2 ** 58 for k in range(64)]
        self.assertEqual(helpers(64, steps, 9, steps[1:], 0), [16 * 2 ** 58, 32 * 2 ** 58])

    def test_any_value(self):
        wrongs = ODD + [[], [2], [4], [4, 2], [2, 2], [1, 2], [4, 5], [1, 2, 4], [0, 4], [2, 8], [True, 4], (2, 4), 2,
                        [2, None], {2: 0, 4: 0}, GREATEST, [3, 4], [2, Unfit()]]
        check_judged(self, is_helpers, [3, SPOTS, 3, [1, 2, 4, 5], 0], [[2, 4]], wrongs)
        check_judged(self, is_helpers, [3, SPOTS, 3, [0, 4], 2], [], ODD + [[], [0], [4], [0, 4]])


class TestReach(unittest.TestCase):
    def lists(self):
        chance = random.Random(92)
        for width in [3, 4, 8, 64] * 12:
            places = random_code(chance, width)[1][:7]
            place = chance.choice(places)
            others = [other for other in places if other != place]
            yield places, chance.choice([0, 1, 2, 3, len(places), GREATEST]), \
                sorted(chance.sample(others, chance.randint(0, len(others)))), place

    def test_every_width(self):
        for places, count, allowed, place in self.lists():
            widths = reach(places, count, allowed, place)
            first = max(1, places[-1].bit_length())
            for width in range(first, 65):
                enough = [t for t, most in enumerate(widths) if most is None or most >= width]
                self.assertEqual(fewest_helpers(width, places, count, allowed, place), enough[0] if enough else None)

    def test_greatest_widths(self):
        for places, count, allowed, place in self.lists():
            widths = reach(places, count, allowed, place)
            self.assertLessEqual(len(widths), min(count, len(allowed)) + 1)
            self.assertEqual([t for t, most in enumerate(widths) if most is None], [count] if count < len(widths) else [])
            for t, most in enumerate(widths):
                parts = [list(part) for many in range(t + 1) for part in combinations(allowed, many)]
                wanted = max(
                    max(w for w in [*range(400), FAR] if w == 0 or tells_at(w, count, part, place)) for part in parts)
                self.assertEqual(wanted, FAR if most is None else most)
            # where it ends, all allowed places together do no better
            if None not in widths:
                self.assertFalse(tells_at(widths[-1] + 1, count, allowed, place))

    def test_edges(self):
        self.assertEqual(reach([LAST], 0, [], LAST), [None])
        self.assertEqual(reach([LAST], GREATEST, [], LAST), [0])
        self.assertEqual(reach([0, 2 ** 62, 2 ** 63], 5, [0, 2 ** 62], 2 ** 63), [0, 63, 125])
        self.assertEqual(reach([0, 2 ** 62, 2 ** 63], 2, [0, 2 ** 62], 2 ** 63), [0, 63, None])
        self.assertEqual(reach([0, 1], 2, [0], 1), [0, 0])
        self.assertEqual(reach([0, 1], 1, [0], 1), [0, None])
        neighbours = list(range(64))
        self.assertEqual(reach(neighbours, 4, neighbours[1:], 0), [0, 5, 9, 13, None])


class TestSteps(unittest.TestCase):
    def test_by_rule(self):
        for width in [1, 2, 3, 8, 33, 63, 64]:
            for count in [0, 1, 2, 3, 5, 20, 65, 66, 67, GREATEST]:
                for bits in [0, 1, 2, 5, 16, 31, 32, 63, 64]:
                    k = 0
                    while k < count and bits * k + sum(twos(m) for m in range(1, k + 1)) < width:
                        k += 1
                    self.assertEqual(steps_needed(width, count, bits), k)

    def test_by_codes(self):
        for width in [2, 3, 4, 6]:
            for bits in range(width):
                places = [m * 2 ** bits for m in range(12) if m * 2 ** bits < 2 ** width]
                for count in range(6):
                    enough = [k for k in range(len(places)) if follows(width, places, count, places[1:k + 1], 0)]
                    needed = steps_needed(width, count, bits)
                    self.assertEqual(enough, list(range(needed, len(places))))
                    back = [2 ** width - 1 - place for place in reversed(places)]
                    enough = [k for k in range(len(back)) if follows(width, back, count, back[-1 - k:-1], back[-1])]
                    self.assertEqual(enough, list(range(needed, len(back))))

    def test_both_sides(self):
        self.assertIs(follows(3, [0, 2, 4], 3, [0, 4], 2), False)
        self.assertIs(follows(3, [0, 2, 4], 3, [2, 4], 0), True)

    def test_edges(self):
        self.assertEqual(steps_needed(64, GREATEST, 0), 66)
        self.assertEqual(steps_needed(64, 65, 0), 65)
        self.assertEqual(steps_needed(64, GREATEST, 64), 1)
        self.assertEqual(steps_needed(64, GREATEST, 63), 2)
        self.assertEqual(steps_needed(1, 1, 0), 1)
        self.assertEqual(steps_needed(1, GREATEST, 0), 2)
        self.assertEqual(steps_needed(64, 0, 64), 0)


class TestWrong(unittest.TestCase):
    CODE = [(InvalidWidth, NO_WIDTHS), (InvalidPlaces, no_places(3)), (InvalidNumber, NO_COUNTS)]
    NO_PLACE = (InvalidNumber, NO_COUNTS + [1, 2, 4, 3, 6, 7, 8, GREATEST])

    def test_allowed(self):
        allowed = (InvalidPlaces, no_parts(3, SPOTS))
        for function in [follows, fewest_helpers, helpers]:
            check_refusals(self, function, [3, SPOTS, 3, [1, 2, 4], 0], self.CODE + [allowed, self.NO_PLACE])
            check_refusals(self, function, [3, SPOTS, 0, [1, 2, 4], 5], self.CODE + [allowed, self.NO_PLACE])
        for value in [[2, 4], None]:
            check_refusals(self, is_helpers, [3, SPOTS, 3, [1, 2, 4], 0, value], self.CODE + [allowed, self.NO_PLACE])

    def test_reach(self):
        wrong = [(InvalidPlaces, no_places(64)), (InvalidNumber, NO_COUNTS), (InvalidPlaces, no_parts(64, SPOTS))]
        check_refusals(self, reach, [SPOTS, 3, [1, 2, 4], 0], wrong + [self.NO_PLACE])

    def test_steps(self):
        wrong = [(InvalidWidth, NO_WIDTHS), (InvalidNumber, NO_COUNTS), (InvalidNumber, NO_COUNTS + [65, 66, GREATEST])]
        check_refusals(self, steps_needed, [3, 3, 1], wrong)


if __name__ == "__main__":
    unittest.main()
