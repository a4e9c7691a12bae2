import unittest
from itertools import permutations

from headroad.ways import head_for, parting, spans, way_for
from samples import (
    all_heads, many_tables, slow_parting, slow_spans, slow_way, table_of_sixty, texts_of,
)


class Leading(unittest.TestCase):
    def test_the_longest_head_leads_in_any_order(self):
        rows = [("", 1), ("0", 2), ("01", 3), ("011", None), ("1", 4)]
        for table in permutations(rows):
            table = list(table)
            for address, head, way in [
                ("0111", "011", None), ("0100", "01", 3), ("0011", "0", 2), ("1011", "1", 4), ("0110", "011", None),
            ]:
                self.assertEqual(head_for(table, address), head)
                self.assertEqual(way_for(table, address), way)

    def test_a_row_that_tells_nowhere_is_not_no_row(self):
        rows = [("0", None)]
        self.assertEqual(head_for(rows, "01"), "0")
        self.assertIsNone(way_for(rows, "01"))
        self.assertIsNone(head_for(rows, "11"))
        self.assertIsNone(way_for(rows, "11"))

    def test_nowhere_in_a_longer_head_hides_the_shorter_way(self):
        self.assertIsNone(way_for([("", 5), ("1", None)], "10"))
        self.assertEqual(way_for([("", None), ("1", 5)], "10"), 5)

    def test_the_empty_head_and_way_nought(self):
        self.assertEqual(head_for([("", 0)], "1"), "")
        self.assertEqual(way_for([("", 0)], "1"), 0)
        self.assertEqual(head_for([("", None)], "1"), "")
        self.assertEqual(way_for([("", 9), ("1", 0)], "1"), 0)

    def test_the_empty_table(self):
        for address in ["0", "1", "0" * 16, "1" * 16]:
            self.assertIsNone(head_for([], address))
            self.assertIsNone(way_for([], address))

    def test_a_head_that_is_the_whole_address(self):
        rows = [("01" * 8, 9999), (("01" * 8)[:15], 1)]
        self.assertEqual(head_for(rows, "01" * 8), "01" * 8)
        self.assertEqual(way_for(rows, "01" * 8), 9999)
        self.assertEqual(way_for(rows, "01" * 7 + "00"), 1)

    def test_a_longer_head_that_begins_another_address(self):
        self.assertEqual(head_for([("010", 1), ("0", 2)], "0110"), "0")

    def test_the_table_of_sixty_rows(self):
        rows = table_of_sixty()
        self.assertEqual(len(rows), 60)
        self.assertEqual(len(dict(rows)), 60)
        for table in [rows, rows[::-1], sorted(rows, key=lambda row: row[0])]:
            for address, head, way in [
                ("01" * 8, "01" * 8, 16), ("01" * 7 + "00", "01" * 7 + "0", 15), ("1" * 16, "111111", 131),
                ("0" * 16, "0" * 16, 5), ("0011" + "0" * 12, "0011000", None), ("00001" + "1" * 11, "00001", 0),
                ("0000100000000000", "000010", None), ("0" * 15 + "1", "0", 1),
            ]:
                with self.subTest(address=address):
                    self.assertEqual(head_for(table, address), head)
                    self.assertEqual(way_for(table, address), way)

    def test_many_tables(self):
        for size in [1, 3, 5]:
            for rows in many_tables(size, 40):
                for address in texts_of(size):
                    begun = [head for head, way in rows if address[:len(head)] == head]
                    longest = max(begun, key=len) if begun else None
                    self.assertEqual(head_for(rows, address), longest)
                    self.assertEqual(way_for(rows, address), slow_way(rows, address))


class Spans(unittest.TestCase):
    def test_named_tables(self):
        for rows, size, told in [
            ([], 1, [(0, 1, None)]),
            ([], 16, [(0, 65535, None)]),
            ([("", None)], 4, [(0, 15, None)]),
            ([("", 0)], 4, [(0, 15, 0)]),
            ([("0", 7), ("1", 7)], 4, [(0, 15, 7)]),
            ([("01", 7), ("10", 7)], 4, [(0, 3, None), (4, 11, 7), (12, 15, None)]),
            ([("0", 7), ("01", 7)], 4, [(0, 7, 7), (8, 15, None)]),
            ([("0", 7), ("01", 8)], 4, [(0, 3, 7), (4, 7, 8), (8, 15, None)]),
            ([("", 7), ("01", None)], 4, [(0, 3, 7), (4, 7, None), (8, 15, 7)]),
            ([("", 7), ("0110", 8)], 4, [(0, 5, 7), (6, 6, 8), (7, 15, 7)]),
            ([("0", 0)], 4, [(0, 7, 0), (8, 15, None)]),
            ([("1", None), ("11", 3)], 4, [(0, 11, None), (12, 15, 3)]),
            ([("0", 1)], 1, [(0, 0, 1), (1, 1, None)]),
            ([("1", 1), ("0", 2)], 1, [(0, 0, 2), (1, 1, 1)]),
            ([("", 1), ("0" * 16, 2), ("1" * 16, 3)], 16, [(0, 0, 2), (1, 65534, 1), (65535, 65535, 3)]),
            ([("1", 9999), ("", 4)], 16, [(0, 32767, 4), (32768, 65535, 9999)]),
            ([("", 1), ("0", 2), ("00", 1), ("01", 1)], 3, [(0, 7, 1)]),
        ]:
            with self.subTest(rows=rows, size=size):
                self.assertEqual(spans(rows, size), told)
                self.assertEqual(spans(rows[::-1], size), told)

    def check_shape(self, told, size):
        self.assertIs(type(told), list)
        for span in told:
            self.assertIs(type(span), tuple)
            self.assertEqual(len(span), 3)
            self.assertLessEqual(span[0], span[1])
        self.assertEqual(told[0][0], 0)
        self.assertEqual(told[-1][1], 2 ** size - 1)
        for one, following in zip(told, told[1:]):
            self.assertEqual(following[0], one[1] + 1)
            self.assertNotEqual(following[2], one[2])

    def test_every_table_of_two_rows(self):
        heads = all_heads(3)
        for one in heads:
            for other in heads:
                for ways in [(1, 1), (1, 2), (1, None), (None, 1), (0, None)]:
                    if one != other:
                        rows = [(one, ways[0]), (other, ways[1])]
                        self.assertEqual(spans(rows, 3), slow_spans(rows, 3))

    def test_many_tables(self):
        for size in [1, 2, 4, 7]:
            for rows in many_tables(size, 60):
                told = spans(rows, size)
                self.check_shape(told, size)
                self.assertEqual(told, slow_spans(rows, size))

    def test_the_table_of_sixty_rows(self):
        told = spans(table_of_sixty(), 16)
        self.check_shape(told, 16)
        self.assertEqual(told, slow_spans(table_of_sixty(), 16))

    def test_somewhat_beyond_the_bounds(self):
        rows = [(address, 10000 + number) for number, address in enumerate(texts_of(6))]
        self.assertEqual(spans(rows, 6), [(number, number, 10000 + number) for number in range(64)])
        self.assertEqual(spans([("1" * 18, 1)], 18), [(0, 2 ** 18 - 2, None), (2 ** 18 - 1, 2 ** 18 - 1, 1)])
        self.assertEqual(way_for(rows, "111111"), 10063)
        self.assertEqual(parting(rows, rows[:-1], 6), "111111")


class Parting(unittest.TestCase):
    def check_both_ways_about(self, ones, others, size, answer):
        self.assertEqual(parting(ones, others, size), answer)
        self.assertEqual(parting(others, ones, size), answer)

    def test_tables_that_lead_alike(self):
        for ones, others in [
            ([], []),
            ([], [("", None)]),
            ([], [("01", None), ("1", None)]),
            ([("", 1)], [("0", 1), ("1", 1)]),
            ([("", 1)], [("", 1), ("0110", 1)]),
            ([("", 1), ("1", 2)], [("1", 2), ("", 1)]),
            ([("", 1), ("1", 2)], [("0", 1), ("", 2)]),
            ([("", 5), ("0", 1), ("1", 2)], [("0", 1), ("1", 2)]),
        ]:
            with self.subTest(ones=ones, others=others):
                self.check_both_ways_about(ones, others, 4, None)

    def test_the_least_address_led_otherwise(self):
        for ones, others, size, answer in [
            ([], [("", 0)], 4, "0000"),
            ([("", 1)], [("", 2)], 1, "0"),
            ([("", 1)], [("", 1), ("1", 2)], 1, "1"),
            ([("0", 1)], [("", 1)], 4, "1000"),
            ([("", 1), ("01", 2)], [("", 1), ("0", 2)], 4, "0000"),
            ([("", 1), ("01", 2)], [("", 1), ("011", 2)], 4, "0100"),
            ([("", 1), ("010", 2)], [("", 1), ("01", 2)], 4, "0110"),
            ([("", 1), ("11", 3), ("0110", 2)], [("", 1)], 4, "0110"),
            ([("", 1)], [("", 1), ("1" * 16, 2)], 16, "1" * 16),
            ([("", 1)], [("", 1), ("1" * 16, None)], 16, "1" * 16),
            ([("0", None)], [("0", 0)], 16, "0" * 16),
            ([("1", 1), ("11", 2)], [("11", 2), ("10", 3)], 3, "100"),
        ]:
            with self.subTest(ones=ones, others=others):
                self.check_both_ways_about(ones, others, size, answer)

    def test_a_table_and_itself(self):
        rows = table_of_sixty()
        self.assertIsNone(parting(rows, rows, 16))
        self.assertIsNone(parting(rows, rows[::-1], 16))
        self.assertEqual(parting(rows, rows[:-1], 16), "0" * 16)

    def test_it_is_an_address_as_a_text(self):
        self.assertIs(type(parting([("1", 1)], [], 16)), str)

    def test_many_pairs_of_tables(self):
        for size in [1, 2, 4, 6]:
            tables = many_tables(size, 60, 12)
            for ones, others in zip(tables, tables[1:]):
                self.check_both_ways_about(ones, others, size, slow_parting(ones, others, size))

    def test_tables_with_one_row_changed(self):
        for rows in many_tables(5, 30, 20):
            for place, row in enumerate(rows):
                others = rows[:place] + [(row[0], 4321)] + rows[place + 1:]
                fewer = rows[:place] + rows[place + 1:]
                self.check_both_ways_about(rows, others, 5, slow_parting(rows, others, 5))
                self.check_both_ways_about(rows, fewer, 5, slow_parting(rows, fewer, 5))


if __name__ == "__main__":
    unittest.main()
