import unittest
from functools import lru_cache
from itertools import product

from headroad.thin import thinned
from headroad.ways import parting
from samples import (
    all_heads, is_table, many_tables, slow_parting, slow_way, stands_by_heads, table_of_sixty, texts_of,
)


def fewest_by_search(size, ways):
    """How few rows lead the addresses of a size so, for each list of ways: every table is tried.

    Rows take effect from the shortest head to the longest, each over the stretch that its head begins. So one head
    behind the other is left out or gets each of the ways, and of the tables that have led alike so far only the
    one of fewest rows is followed up.
    """
    fewest = {(None,) * 2 ** size: 0}
    for head in all_heads(size):
        wide = 2 ** (size - len(head))
        low = int(head or "0", 2) * wide
        following = dict(fewest)
        for led, count in fewest.items():
            for way in ways:
                new = led[:low] + (way,) * wide + led[low + wide:]
                following[new] = min(following.get(new, count + 1), count + 1)
        fewest = following
    return fewest


def fewest_by_counting(rows):
    """The same for one table of any size: each head is left out or gets each way, and the cheaper one counts."""
    heads = [head for head, way in rows]
    ways = {None, *(way for head, way in rows)}

    @lru_cache(maxsize=None)
    def count_of(place, above):
        def count_below(way):
            if all(head == place or not head.startswith(place) for head in heads):
                return 0 if slow_way(rows, place) == way else 1
            return count_of(place + "0", way) + count_of(place + "1", way)
        return min(count_below(above), 1 + min(count_below(way) for way in ways))

    return count_of("", None)


def few_ways(rows, how_many):
    return [(head, None if way is None else way % how_many) for head, way in rows]


class Thinned(unittest.TestCase):
    def check(self, rows):
        """Leads alike, stands by its heads, leaves the given table; how few its rows are, the caller asks."""
        before = list(rows)
        told = thinned(rows)
        self.assertEqual(rows, before)
        self.assertTrue(is_table(told), told)
        self.assertTrue(stands_by_heads(told), told)
        longest = max([1] + [len(head) for head, way in rows])
        self.assertLessEqual(max([len(head) for head, way in told] + [0]), longest)
        for size in range(longest, min(longest + 2, 8)):
            self.assertIsNone(slow_parting(rows, told, size), (rows, told))
        for size in {longest, 16}:
            self.assertIsNone(parting(rows, told, size), (rows, told))
        return told

    def test_tables_with_one_answer(self):
        for rows, answer in [
            ([], []),
            ([("", None)], []),
            ([("", 0)], [("", 0)]),
            ([("", 9999)], [("", 9999)]),
            ([("0", 7)], [("0", 7)]),
            ([("0", None)], []),
            ([("01", 0)], [("01", 0)]),
            ([("1" * 16, 3)], [("1" * 16, 3)]),
            ([("1" * 16, None)], []),
            ([("0", 7), ("1", 7)], [("", 7)]),
            ([("1", 7), ("", 7)], [("", 7)]),
            ([("", 5), ("0", 7), ("1", 7)], [("", 7)]),
            ([("1", None), ("0", None)], []),
            ([("", 7), ("01", 7)], [("", 7)]),
            ([("", 7), ("01", None)], [("", 7), ("01", None)]),
            ([("0", 7), ("00", None), ("01", None)], []),
            ([("", 1), ("0", None), ("01", 1)], [("", 1), ("00", None)]),
            ([("00", 1), ("01", 1), ("10", 1)], [("", 1), ("11", None)]),
            ([("00", 1), ("01", 1), ("10", 1), ("11", 2)], [("", 1), ("11", 2)]),
            ([("000", 1), ("001", 2), ("01", 1), ("1", None)], [("0", 1), ("001", 2)]),
            ([("", 3), ("0", 1), ("1", None)], [("0", 1)]),
            ([("0" * 15, 4), ("0" * 16, 4)], [("0" * 15, 4)]),
            ([("0" * 15 + "1", 4), ("0" * 16, 4)], [("0" * 15, 4)]),
        ]:
            with self.subTest(rows=rows):
                self.assertEqual(self.check(rows), answer)
                self.assertEqual(self.check(rows[::-1]), answer)

    def test_it_leads_alike_for_every_size_that_no_head_passes(self):
        for rows in [[], [("", 5)], [("1", 0)], [("11", 2), ("10", 2)], *many_tables(4, 10), table_of_sixty()]:
            told = thinned(rows)
            for size in range(max([1] + [len(head) for head, way in rows]), 17):
                self.assertIsNone(parting(rows, told, size), (rows, told, size))

    def test_nowhere_without_a_row_is_made_use_of(self):
        self.assertEqual(self.check([("0", 7), ("1", None)]), [("0", 7)])
        self.assertEqual(len(self.check([("0", 7), ("1", 8)])), 2)
        self.assertEqual(len(self.check([("0", 7), ("10", 8), ("11", None)])), 2)
        self.assertEqual(len(self.check([("00", 7), ("01", None), ("1", 7)])), 2)

    def test_a_row_that_tells_nowhere_where_it_saves_rows(self):
        rows = [("00", 1), ("010", 1), ("10", 1), ("11", 1)]
        self.assertEqual(self.check(rows), [("", 1), ("011", None)])

    def test_every_table_of_small_sizes(self):
        for size, ways in [(1, [None, 0, 1, 2]), (2, [None, 0, 1])]:
            fewest = fewest_by_search(size, ways)
            heads = all_heads(size)
            addresses = texts_of(size)
            for choice in product([*ways, "left out"], repeat=len(heads)):
                rows = [row for row in zip(heads, choice) if row[1] != "left out"]
                told = thinned(rows)
                led = tuple(slow_way(rows, address) for address in addresses)
                self.assertEqual(tuple(slow_way(told, address) for address in addresses), led, rows)
                self.assertEqual(len(told), fewest[led], rows)

    def check_every_leading(self, size, ways):
        fewest = fewest_by_search(size, ways)
        addresses = texts_of(size)
        self.assertEqual(len(fewest), len(ways) ** len(addresses))
        for led, count in fewest.items():
            told = thinned(list(zip(addresses, led)))
            self.assertEqual(len(told), count, led)
            self.assertEqual(tuple(slow_way(told, address) for address in addresses), led)

    def test_every_way_to_lead_the_addresses_of_a_size(self):
        self.check_every_leading(2, [None, 0, 1, 2, 3])
        self.check_every_leading(3, [None, 1, 2])
        self.check_every_leading(3, [1, None])

    def test_many_ways_to_lead_sixteen_addresses(self):
        fewest = fewest_by_search(4, [None, 5])
        addresses = texts_of(4)
        for led in sorted(fewest, key=repr)[::7]:
            self.assertEqual(len(thinned(list(zip(addresses, led)))), fewest[led], led)

    def test_many_tables_of_several_sizes(self):
        for size in [1, 2, 3, 5, 8, 16]:
            for how_many in [1, 2, 3, 9999]:
                for rows in many_tables(min(size, 10), 12):
                    ahead = "1" * (size - 10)
                    table = few_ways([(ahead + head, way) for head, way in rows], how_many)
                    self.assertEqual(len(self.check(table)), fewest_by_counting(table), table)

    def test_both_counts_agree(self):
        fewest = fewest_by_search(3, [None, 0, 1])
        for rows in many_tables(3, 40):
            table = few_ways(rows, 2)
            led = tuple(slow_way(table, address) for address in texts_of(3))
            self.assertEqual(fewest_by_counting(table), fewest[led])

    def test_nested_heads(self):
        for ways in [[1, 2], [1, None], [None, 1], [1, 2, 3], [1, 1, 2], [4]]:
            rows = [(("01" * 8)[:length], ways[length % len(ways)]) for length in range(17)]
            self.assertEqual(len(self.check(rows)), fewest_by_counting(rows))
            rows = [("1" * length, ways[length % len(ways)]) for length in range(16, 0, -1)]
            self.assertEqual(len(self.check(rows)), fewest_by_counting(rows))

    def test_many_rows_with_few_ways(self):
        addresses = texts_of(5)
        self.assertEqual(self.check([(address, 1) for address in addresses]), [("", 1)])
        self.assertEqual(self.check([(address, None) for address in addresses]), [])
        rows = [(address, 1 if address.endswith("1") else 2) for address in addresses]
        self.assertEqual(len(self.check(rows)), 17)
        rows = [(address, 1 if address.endswith("1") else None) for address in addresses]
        self.assertEqual(len(self.check(rows)), 16)
        rows = [(head, len(head) % 2) for head in all_heads(5)[:60]]
        self.assertEqual(len(self.check(rows)), fewest_by_counting(rows))

    def test_the_table_of_sixty_rows(self):
        rows = table_of_sixty()
        told = self.check(rows)
        self.assertEqual(len(told), fewest_by_counting(rows))
        for address in texts_of(16)[::5]:
            self.assertEqual(slow_way(told, address), slow_way(rows, address))
        few = few_ways(rows, 2)
        self.assertEqual(len(self.check(few)), fewest_by_counting(few))

    def test_a_thinned_table_stays_as_few(self):
        for rows in many_tables(5, 30):
            told = thinned(rows)
            self.assertLessEqual(len(told), len(rows))
            self.assertEqual(len(thinned(told)), len(told))

    def test_somewhat_beyond_the_bounds(self):
        rows = [(address, 10000) for address in texts_of(7)]
        self.assertEqual(thinned(rows), [("", 10000)])
        self.assertEqual(thinned([("0" * 20, 1), ("0" * 19 + "1", 1)]), [("0" * 19, 1)])


if __name__ == "__main__":
    unittest.main()
