import unittest

from headroad import errors
from headroad.lines import read, shown
from samples import table_of_sixty

ROWS = [
    (("01", 7), "01* 7"),
    (("", None), "* nowhere"),
    (("", 0), "* 0"),
    (("0", 0), "0* 0"),
    (("1", 10), "1* 10"),
    (("1", 100), "1* 100"),
    (("0110", 9999), "0110* 9999"),
    (("01" * 8, None), "0101010101010101* nowhere"),
    (("0" * 16, 1000), "0000000000000000* 1000"),
]
BAD_LINES = [
    "", " ", "*", "* ", "7", "nowhere", "01", "01*", "01* ", "01 7", "01 nowhere", "017",
    "0" * 17 + "* 7", "01" * 9 + "* nowhere", "0" * 200 + "* 7",
    "2* 7", "0a1* 7", "0 1* 7", " * 7", " 01* 7", "01 * 7", "-1* 7", "01.* 7", "x* nowhere",
    "01** 7", "*01* 7", "01* *7", "01* 7*", "0*1* 7", "** 7", "* * 7", "01* 7* 8", "01* 7 01* 7",
    "01*7", "01*nowhere", "*0", "01*  7", "01*  nowhere", "*  0",
    "01* 07", "01* 00", "01* 0000", "01* 007", "01* 09999", "* 01",
    "01* 10000", "01* 99999", "01* 12345", "* 100000000", "* " + "1" * 6000, "* " + "0" * 6000,
    "01* +7", "01* -7", "01* -0", "01* -1", "01* +0",
    "01* 7 ", "01* nowhere ", "* 0 ", "01* 7  ",
    "01* Nowhere", "01* NOWHERE", "01* nowher", "01* nowheres", "01* None", "01* none", "01* somewhere", "01* now",
    "01* 7.0", "01* 7a", "01* a", "01* 0x7", "01* 1_0", "01* 1 0", "01* 1,0", "01* 7nowhere", "01* nowhere7", "01* ~",
    "7 *01", "01: 7", "(\"01\", 7)", "01*\t7", "01* 7\n", "\n", "01\n* 7", "01* 7\r",
    "01* \u0667", "01* \u00b2", "\u0661* 7", "01*\u00a07", "01* \uff17",
]


class Shown(unittest.TestCase):
    def test_named_rows(self):
        for row, line in ROWS:
            with self.subTest(row=row):
                self.assertEqual(shown(row), line)
                self.assertIs(type(shown(row)), str)

    def test_heads_of_every_length(self):
        for length in range(17):
            for way, written in [(0, "0"), (1, "1"), (10, "10"), (9999, "9999"), (None, "nowhere")]:
                for head in ["0" * length, "1" * length, ("01" * 8)[:length]]:
                    self.assertEqual(shown((head, way)), head + "*" + " " + written)

    def test_somewhat_beyond_the_bounds(self):
        self.assertEqual(shown(("0" * 17, 10000)), "00000000000000000* 10000")


class Read(unittest.TestCase):
    def test_named_lines(self):
        for row, line in ROWS:
            with self.subTest(line=line):
                told = read(line)
                self.assertEqual(told, row)
                self.assertIs(type(told), tuple)
                self.assertEqual([type(part) for part in told], [type(part) for part in row])

    def test_heads_of_every_length(self):
        for length in range(17):
            for written, way in [("0", 0), ("1", 1), ("10", 10), ("9999", 9999), ("nowhere", None)]:
                for head in ["0" * length, "1" * length, ("01" * 8)[:length]]:
                    self.assertEqual(read(head + "* " + written), (head, way))

    def test_every_way_is_read_back(self):
        for way in [None, *range(10000)]:
            self.assertEqual(read(shown(("01", way))), ("01", way))
        for row in table_of_sixty():
            self.assertEqual(read(shown(row)), row)

    def test_bad_lines(self):
        for line in BAD_LINES:
            with self.subTest(line=line[:40]):
                with self.assertRaises(errors.BadLine):
                    read(line)

    def test_bad_line_is_that_refusal_alone(self):
        for line in ["", "01* 07", "2* 7"]:
            with self.assertRaises(errors.RoadError) as taken:
                read(line)
            self.assertIs(type(taken.exception), errors.BadLine)

    def test_each_sign_changed_in_a_line(self):
        """One sign changed, put in or taken away gives a line that is refused or is the line of what was read."""
        signs = [chr(code) for code in range(32, 127) if chr(code) != "%"]
        for line in ["01* 7", "* nowhere", "1* 10", "01* 9999", "0" * 16 + "* 0"]:
            changed = [line[:place] + line[place + 1:] for place in range(len(line))]
            for sign in signs:
                changed += [line[:place] + sign + line[place + 1:] for place in range(len(line))]
                changed += [line[:place] + sign + line[place:] for place in range(len(line) + 1)]
            for other in changed:
                try:
                    row = read(other)
                except errors.BadLine:
                    continue
                self.assertEqual(shown(row), other)
                self.assertLessEqual(len(row[0]), 16)
                self.assertLessEqual(row[1] or 0, 9999)


if __name__ == "__main__":
    unittest.main()
