import random
import unittest
from itertools import combinations

from anyplaces.alarms import alike_change, look_alikes, unseen
from anyplaces.bits import bits_told
from anyplaces.checks import alarms
from anyplaces.codes import is_codeword
from anyplaces.distance import distance
from anyplaces.errors import InvalidNumber, InvalidPlaces, InvalidWidth
from anyplaces.sizes import codeword_at, how_many_codewords
from tests.plain import all_codewords, parts_of
from tests.test_codes import random_code
from tests.test_telling import CODES
from tests.wrong import GREATEST, NO_COUNTS, NO_WIDTHS, check_refusals, no_places

FOUR, ROW, SIX = [0, 1, 2, 4], [0, 1, 2, 3], [0, 1, 2, 3, 4, 5]
LAST = 2 ** 64 - 1
# codes of which some have look-alikes whose changes are not the same
PAIRED = CODES + [(4, [0, 4], 1), (3, [0, 1, 2], 2), (4, [0, 2, 3], 2), (4, [0, 3, 8], 2), (3, [0, 1, 3, 5], 2)]


def changed_at(places, changes):
    """The words that are 0 but for some changes."""
    return [changes.get(place, 0) for place in places]


def unseen_by_listing(code, place, listed):
    """All changes at a place that make no alarm: those that are a codeword by themselves."""
    return [e for e in range(1, 2 ** code[0]) if tuple(changed_at(code[1], {place: e})) in listed]


def alike_by_listing(code, one, other, listed):
    """All pairs of seen changes at two places that are unlike by a codeword."""
    end = 2 ** code[0]
    hidden_ones = unseen_by_listing(code, one, listed), unseen_by_listing(code, other, listed)
    return [(e, f) for e in range(1, end) for f in range(1, end)
            if tuple(changed_at(code[1], {one: e, other: end - f})) in listed
            and e not in hidden_ones[0] and f not in hidden_ones[1]]


def larger_codes(seed, many):
    chance = random.Random(seed)
    codes = [random_code(chance, width) for width in [1, 2, 4, 8, 20, 64] * many]
    return codes + [(64, [k * 2 ** 58 for k in range(24)], 2), (64, list(range(24)), 12), (5, list(range(24)), 20)]


class TestExamples(unittest.TestCase):
    def test_changes(self):
        self.assertEqual(
            [unseen(3, FOUR, 2, 1), unseen(3, FOUR, 2, 0), unseen(4, FOUR, 4, 4), unseen(3, ROW, 2, 3),
             unseen(1, [0, 1], 0, 1)],
            [4, None, 8, None, None])
        self.assertEqual(
            [look_alikes(3, ROW, 2), alike_change(3, ROW, 2, 1, 3), alike_change(3, ROW, 2, 0, 1),
             alike_change(3, FOUR, 2, 2, 1), look_alikes(3, FOUR, 2), look_alikes(3, SIX, 2)],
            [[(0, 2), (1, 3)], (4, 4), None, (4, 2), [(1, 2)], []])


class TestListed(unittest.TestCase):
    def test_unseen(self):
        for code in PAIRED:
            listed = all_codewords(*code)
            for place in code[1]:
                hidden_ones = unseen_by_listing(code, place, listed)
                least = unseen(*code, place)
                self.assertEqual(least, min(hidden_ones, default=None))
                # its multiples, and no others
                self.assertEqual(hidden_ones, list(range(least, 2 ** code[0], least)) if least else [])
            least = distance(*code)
            none = [unseen(*code, place) for place in code[1]] == [None] * len(code[1])
            self.assertIs(none, least is None or least >= 2)

    def test_unseen_makes_no_alarm(self):
        chance = random.Random(141)
        for code in PAIRED:
            width, places, _ = code
            words = [chance.getrandbits(width) for _ in places]
            for at, place in enumerate(places):
                least = unseen(*code, place)
                for change in range(1, 2 ** width):
                    wrong = list(words)
                    wrong[at] = (wrong[at] + change) % 2 ** width
                    same = alarms(*code, wrong) == alarms(*code, words)
                    self.assertIs(same, least is not None and change % least == 0)

    def test_look_alikes(self):
        seen = set()
        for code in PAIRED:
            listed = all_codewords(*code)
            found = []
            for one, other in combinations(code[1], 2):
                for first, second in [(one, other), (other, one)]:
                    pairs = alike_by_listing(code, first, second, listed)
                    self.assertEqual(alike_change(*code, first, second), min(pairs, default=None))
                    seen |= {pairs[0][0] == pairs[0][1]} if pairs else {None}
                if alike_by_listing(code, one, other, listed):
                    found.append((one, other))
            self.assertEqual(look_alikes(*code), found)
        self.assertEqual(seen, {True, False, None})

    def test_by_codewords(self):
        # some codeword is not 0 at just the two places, with words that are no unseen changes
        for code in PAIRED:
            width, places, _ = code
            found = set()
            for words in all_codewords(*code):
                spots = [place for place, word in zip(places, words) if word]
                if len(spots) == 2:
                    told = [(unseen(*code, place), word) for place, word in zip(places, words) if word]
                    if all(least is None or word % least for least, word in told):
                        found.add(tuple(spots))
            self.assertEqual(look_alikes(*code), sorted(found))


class TestLargerCodes(unittest.TestCase):
    def test_unseen(self):
        chance = random.Random(142)
        for code in larger_codes(143, 6):
            width, places, _ = code
            words = codeword_at(*code, chance.randrange(how_many_codewords(*code)))
            for at, place in list(enumerate(places))[:8]:
                others = places[:at] + places[at + 1:]
                bits = bits_told(*code, others, place)
                least = unseen(*code, place)
                self.assertEqual(least, None if bits == width else 2 ** bits)
                for change in {1, 2 ** (width - 1), (least or 1) % 2 ** width, (least or 2) // 2, 2 ** width - (least or 1)}:
                    wrong = list(words)
                    wrong[at] = (wrong[at] + change) % 2 ** width
                    quiet = change == 0 or least is not None and change % least == 0
                    self.assertIs(is_codeword(*code, wrong), quiet)

    def test_look_alikes(self):
        for code in larger_codes(144, 4):
            width, places, _ = code
            found = look_alikes(*code)
            pairs = list(combinations(places, 2))
            if distance(*code) is None or distance(*code) >= 3:
                self.assertEqual(found, [])
            self.assertEqual(found, [pair for pair in pairs if pair in found])
            for one, other in pairs[:12] + pairs[-12:]:
                told = alike_change(*code, one, other)
                back = alike_change(*code, other, one)
                self.assertIs(told is not None, (one, other) in found)
                self.assertIs(back is not None, (one, other) in found)
                if told is None:
                    continue
                first, second = told
                self.assertTrue(0 < first < 2 ** width and 0 < second < 2 ** width)
                same = changed_at(places, {one: first}), changed_at(places, {other: second})
                self.assertEqual(alarms(*code, same[0]), alarms(*code, same[1]))
                self.assertTrue(any(alarms(*code, same[0])))
                # none is less: what is less at the one place is told by all but the other one
                rest = [place for place in places if place not in [one, other]]
                self.assertEqual(first, 2 ** bits_told(*code, rest, one))
                least = unseen(*code, other)
                self.assertTrue(least is None or second < least)

    def test_edges(self):
        self.assertEqual(unseen(64, [LAST], 1, LAST), 1)
        self.assertEqual(unseen(64, [LAST], GREATEST, LAST), 1)
        self.assertIsNone(unseen(64, [LAST], 0, LAST))
        self.assertEqual([look_alikes(64, [LAST], count) for count in [0, 1, GREATEST]], [[], [], []])
        # the word at the one place tells all but the highest bit of the other one, or the same one bit
        self.assertEqual(unseen(64, [0, 2 ** 63], 2, 0), 2 ** 63)
        self.assertEqual(look_alikes(64, [0, 2 ** 63], 2), [(0, 2 ** 63)])
        self.assertEqual(alike_change(64, [0, 2 ** 63], 2, 0, 2 ** 63), (1, 2 ** 63 - 1))
        self.assertEqual(alike_change(64, [0, 2 ** 63], 2, 2 ** 63, 0), (1, 2 ** 63 - 1))
        self.assertEqual(alike_change(64, [0, 2 ** 63], 1, 0, 2 ** 63), (1, LAST))
        self.assertEqual(alike_change(1, [0, 1], 1, 1, 0), (1, 1))
        self.assertIsNone(alike_change(1, [0, 1], 2, 1, 0))
        self.assertIsNone(alike_change(1, [0, 1], 0, 1, 0))
        neighbours = list(range(24))
        self.assertEqual(look_alikes(64, neighbours, 0), [])
        self.assertEqual(look_alikes(64, neighbours, 1), [])
        # with all items each place tells as many further bits of another one as their difference has twos
        evenly = [pair for pair in combinations(neighbours, 2) if (pair[0] - pair[1]) % 2 == 0]
        self.assertEqual(look_alikes(64, neighbours, GREATEST), evenly)
        steps = [k * 2 ** 58 for k in range(24)]
        self.assertEqual(look_alikes(64, steps, 64), [])
        self.assertEqual([unseen(64, steps, 1, place) for place in steps], [None] * 24)
        self.assertEqual(look_alikes(64, [0, 2 ** 63], 1), [(0, 2 ** 63)])

    def test_parts_of_places(self):
        # fewer places have all unseen changes and look-alikes that are left
        for code in [(3, ROW, 2), (3, FOUR, 2), (2, [0, 1, 2, 3], 3)]:
            for part in parts_of(code[1])[1:]:
                listed = all_codewords(code[0], part, code[2])
                for place in part:
                    told = unseen_by_listing((code[0], part, code[2]), place, listed)
                    self.assertEqual(unseen(code[0], part, code[2], place), min(told, default=None))


class TestWrong(unittest.TestCase):
    CODE = [(InvalidWidth, NO_WIDTHS), (InvalidPlaces, no_places(3)), (InvalidNumber, NO_COUNTS)]
    NO_PLACE = NO_COUNTS + [3, 5, 7, 8, GREATEST]

    def test_places(self):
        check_refusals(self, look_alikes, [3, FOUR, 2], self.CODE)
        for count in [0, 2]:
            check_refusals(self, unseen, [3, FOUR, count, 1], self.CODE + [(InvalidNumber, self.NO_PLACE)])

    def test_two_places(self):
        for count in [0, 2]:
            wrong = self.CODE + [(InvalidNumber, self.NO_PLACE), (InvalidNumber, self.NO_PLACE + [2])]
            check_refusals(self, alike_change, [3, FOUR, count, 2, 1], wrong)


if __name__ == "__main__":
    unittest.main()
