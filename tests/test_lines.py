import random
import re
import unittest

from anyplaces.errors import InvalidKnown, InvalidLine, InvalidNumber, InvalidPlaces, InvalidWidth
from anyplaces.lines import line_of, of_line
from tests.test_codes import random_code
from tests.test_fitting import no_known
from tests.wrong import GREATEST, NO_COUNTS, NO_WIDTHS, ODD, check_refusals, nested, no_places, refused

SPOTS = [0, 1, 2, 4, 5]
LAST = 2 ** 64 - 1
NUMBER = "(?:0|[1-9][0-9]*)"
FORM = re.compile(f"({NUMBER})@({NUMBER}(?:,{NUMBER})*)/({NUMBER}):((?:{NUMBER}|-)(?: (?:{NUMBER}|-))*)")


def by_form(line):
    """What a line tells, None if it is none, by one look at its form and then at the numbers."""
    found = FORM.fullmatch(line)
    if found is None:
        return None
    width, count = int(found[1]), int(found[3])
    places, words = [int(text) for text in found[2].split(",")], found[4].split(" ")
    known = [(place, int(word)) for place, word in zip(places, words) if word != "-"]
    right = 1 <= width <= 64 and places == sorted(set(places)) and places[-1] < 2 ** width and len(words) == len(places)
    return (width, places, count, known) if right and all(word < 2 ** width for _, word in known) else None


def random_store(chance, width):
    width, places, count = random_code(chance, width)
    known = [(place, chance.choice([0, 2 ** width - 1, chance.getrandbits(width)])) for place in places]
    return width, places, chance.choice([count, GREATEST]), sorted(chance.sample(known, chance.randint(0, len(known))))


class TestExamples(unittest.TestCase):
    def test_lines(self):
        self.assertEqual(
            [line_of(4, [1, 2, 9], 2, [(1, 7), (9, 15)]), of_line("1@0/0:-"), of_line("3@0,7/10:1 0")],
            ["4@1,2,9/2:7 - 15", (1, [0], 0, []), (3, [0, 7], 10, [(0, 1), (7, 0)])])


class TestLines(unittest.TestCase):
    def test_there_and_back(self):
        chance = random.Random(181)
        for width in [1, 2, 3, 4, 8, 20, 63, 64] * 20:
            told = random_store(chance, width)
            line = line_of(*told)
            self.assertEqual(of_line(line), told)
            self.assertEqual(by_form(line), told)

    def test_unlike_lines(self):
        lines = {}
        for width in [1, 2, 3]:
            for places in [[0], [1], [0, 1]]:
                for count in [0, 1, 10]:
                    for known in [[], [(places[0], 0)], [(places[-1], 1)], [(place, 1) for place in places]]:
                        told = (width, places, count, known)
                        self.assertEqual(lines.setdefault(line_of(*told), told), told)

    def test_edges(self):
        self.assertEqual(line_of(64, [LAST], GREATEST, [(LAST, LAST)]), f"64@{LAST}/{GREATEST}:{LAST}")
        self.assertEqual(line_of(1, [0, 1], 0, []), "1@0,1/0:- -")
        self.assertEqual(line_of(1, [0, 1], 0, [(0, 0), (1, 1)]), "1@0,1/0:0 1")
        self.assertEqual(of_line(f"64@{LAST}/{GREATEST}:{LAST}"), (64, [LAST], GREATEST, [(LAST, LAST)]))
        for places in [list(range(64)), list(range(2 ** 64 - 64, 2 ** 64)), [k * 2 ** 58 for k in range(64)]]:
            told = (64, places, GREATEST, [(place, LAST - k) for k, place in enumerate(places)])
            line = line_of(*told)
            self.assertLess(len(line), 3000)
            self.assertEqual(of_line(line), told)
            self.assertEqual(of_line(line_of(64, places, 5, [])), (64, places, 5, []))

    def test_long_lines(self):
        # a count may fill the line
        for figures in [2900, 2990]:
            line = "1@0/" + "9" * figures + ":-"
            self.assertEqual(of_line(line), (1, [0], 10 ** figures - 1, []))
            self.assertEqual(line_of(*of_line(line)), line)
            for wrong in ["1@0/0" + "9" * figures + ":-", "9" * figures + "@0/1:-", "1@" + "9" * figures + "/1:-",
                          "1@0/1:" + "9" * figures, "1@0/1:-" + " -" * (figures // 2), "1@0" + ",1" * (figures // 2) + "/1:-",
                          " " * figures, "-" * figures, "9" * figures, "0" * figures, "@" * figures, ":" * figures]:
                refused(self, of_line, [wrong], InvalidLine, wrong)


class TestBent(unittest.TestCase):
    LINES = ["4@1,2,9/2:7 - 15", "1@0/0:-", "3@0,7/10:1 0", "64@0,10,18446744073709551615/3:- 0 18446744073709551615",
             "10@100,200/20:1023 0", "2@0,1,2,3/1:- - - -"]
    SIGNS = "0123456789-@,/: +_.eE\nx\t\r"

    def check(self, line):
        told = by_form(line)
        if told is None:
            refused(self, of_line, [line], InvalidLine, line)
        else:
            self.assertEqual(of_line(line), told)
            self.assertEqual(line_of(*told), line)
        return told is None

    def test_one_sign(self):
        bent = right = 0
        for line in self.LINES:
            self.assertIs(self.check(line), False)
            for at in range(len(line) + 1):
                changed = [line[:at] + sign + line[at:] for sign in self.SIGNS]
                changed += [line[:at] + sign + line[at + 1:] for sign in self.SIGNS]
                # left out, cut off, and exchanged with the next one
                changed += [line[:at] + line[at + 1:], line[:at], line[at:], line[:at] + line[at:at + 2][::-1] + line[at + 2:]]
                for one in changed:
                    told = self.check(one)
                    bent += told
                    right += not told
        self.assertGreater(bent, 2000)
        self.assertGreater(right, 200)

    def test_drawn_signs(self):
        chance = random.Random(182)
        for _ in range(3000):
            line = list(chance.choice(self.LINES))
            for _ in range(chance.randint(2, 4)):
                at = chance.randrange(len(line) + 1)
                line[at:at + chance.randint(0, 2)] = chance.choice(self.SIGNS)
            self.check("".join(line))

    def test_forms(self):
        for line in [
            "", " ", "@", "@/:", "4", "4@", "4@1", "4@1/", "4@1/2", "4@1/2:", "4@1/:1", "4@/2:1", "@1/2:1", "4@1:2/1", "1/2@4:1",
            # noughts ahead of figures
            "04@1/2:1", "4@01/2:1", "4@1/02:1", "4@1/2:01", "4@1/00:1", "4@00/1:1", "4@0/1:00", "00@0/1:0",
            # blanks at the ends and two in a row
            " 4@1/2:1", "4@1/2:1 ", "4@1/2: 1", "4@1,2/2:1  1", "4 @1/2:1", "4@ 1/2:1", "4@1 /2:1", "4@1/ 2:1", "4@1/2 :1",
            "4@1, 2/2:1 1", "4@1,2/2:1\t1", "4@1,2/2:1\n1", "4@1/2:1\n", "\n4@1/2:1", "4@1,2/2:1,1", "4@1 2/2:1 1",
            # too few and too many words and places
            "4@1,2/2:1", "4@1,2/2:-", "4@1/2:1 1", "4@1/2:- -", "4@1,/2:1", "4@,1/2:1", "4@1,,2/2:1 1", "4@1,2/2:1 1 1",
            # out of bounds, out of order, twice
            "0@0/1:0", "65@0/1:0", "64@18446744073709551616/1:0", "3@8/1:0", "3@7/1:8", "1@0,1,2/1:- - -", "1@1/1:2",
            "4@2,1/1:0 0", "4@1,1/1:0 0", "4@0,3,2/1:0 0 0", "4@9,10/1:16 -",
            # no figures
            "4@-1/1:0", "4@1/-1:0", "-4@1/1:0", "4@1/1:-1", "4@1/1:--", "+4@1/1:0", "4@+1/1:0", "4@1/+1:0", "4@1/1:+1", "4@-/1:0",
            "4@1/-:0", "-@1/1:0", "4@1_0/1:0", "4@1/1_0:0", "4@1/1.0:0", "4@1/1e1:0", "4@0x1/1:0", "4@1/x:0", "4@1/None:0",
            "4@1/1:x", "4@1/1:0-", "4@1/1:-0", "4@@1/1:0", "4@1//1:0", "4@1/1::0", "4@1/1:0:0", "4@1/1:0/1", "4@1/1:0@1",
        ]:
            self.assertIs(self.check(line), True, line)

    def test_other_figures(self):
        # figures that are no ASCII signs
        for sign in ["\u0661", "\u0967", "\u00b2", "\u2460", "\uff11", "\U0001d7cf", "\u4e00", "\u00bd"]:
            for line in [f"{sign}@0/1:0", f"4@{sign}/1:0", f"4@0/{sign}:0", f"4@0/1:{sign}", f"4@1{sign}/1:0", f"4@0/1{sign}:0"]:
                refused(self, of_line, [line], InvalidLine, line)


class TestWrong(unittest.TestCase):
    def test_line_of(self):
        wrong = [(InvalidWidth, NO_WIDTHS), (InvalidPlaces, no_places(3)), (InvalidNumber, NO_COUNTS),
                 (InvalidKnown, no_known(3, SPOTS))]
        for known in [[(0, 1), (1, 3)], []]:
            check_refusals(self, line_of, [3, SPOTS, 3, known], wrong)

    def test_of_line(self):
        values = ODD + [0, 1, -1, GREATEST, [], ["1@0/0:-"], ("1@0/0:-",), {"1@0/0:-": 1}, (1, [0], 0, []), nested(list)]
        check_refusals(self, of_line, ["1@0/0:-"], [(InvalidLine, values)])


if __name__ == "__main__":
    unittest.main()
