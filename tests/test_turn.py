import unittest
from itertools import permutations

from headroad.turn import deeds, done, laid_over
from samples import (
    all_heads, heads_in, is_table, many_tables, slow_way, stands_by_heads, table_of_sixty, texts_of,
)


def pairs_of_tables():
    pairs = [([], []), ([], table_of_sixty()), (table_of_sixty(), []), (table_of_sixty(), table_of_sixty()[::-1])]
    for size in [1, 2, 4, 6]:
        tables = many_tables(size, 40, 20)
        pairs += list(zip(tables, tables[1:]))
        pairs += [(rows, [(head, None) for head, way in rows]) for rows in tables[:10]]
    return pairs


def tables_beside(table):
    """The tables one deed away, for size 1 and the ways None and 1."""
    beside = [table - {row} for row in table]
    for head in all_heads(1):
        rest = frozenset(row for row in table if row[0] != head)
        beside += [rest | {(head, way)} for way in [None, 1]]
    return beside


def steps_from(rows):
    """How many deeds each table is away, found by trying every deed."""
    steps = {frozenset(rows): 0}
    edge = list(steps)
    for table in edge:
        for beside in tables_beside(table):
            if beside not in steps:
                steps[beside] = steps[table] + 1
                edge.append(beside)
    return steps


class Deeds(unittest.TestCase):
    def test_named_tables(self):
        for ones, others, answer in [
            ([], [], []),
            ([("", 1)], [("", 1)], []),
            ([("1", 2), ("", 1)], [("", 1), ("1", 2)], []),
            ([("", None)], [("", None)], []),
            ([], [("", None)], [("put", "", None)]),
            ([], [("", 0)], [("put", "", 0)]),
            ([("", None)], [], [("drop", "")]),
            ([("", 0)], [], [("drop", "")]),
            ([("0", None)], [("0", 0)], [("put", "0", 0)]),
            ([("0", 0)], [("0", None)], [("put", "0", None)]),
            ([("0", 1)], [("0", 2)], [("put", "0", 2)]),
            ([("0", 1)], [("1", 1)], [("drop", "0"), ("put", "1", 1)]),
            ([("1", 1)], [("0", 1)], [("drop", "1"), ("put", "0", 1)]),
            ([("0", 1), ("1", 1)], [("", 1)], [("drop", "0"), ("drop", "1"), ("put", "", 1)]),
            (
                [("1", 4), ("011", 1), ("01", 2), ("", 3), ("10", 6)],
                [("10", 6), ("1", 5), ("00", None), ("0", 9999), ("000", 7)],
                [("drop", ""), ("drop", "01"), ("drop", "011"),
                 ("put", "0", 9999), ("put", "00", None), ("put", "000", 7), ("put", "1", 5)],
            ),
        ]:
            with self.subTest(ones=ones, others=others):
                self.assertEqual(deeds(ones, others), answer)
                self.assertEqual(deeds(ones[::-1], others[::-1]), answer)

    def test_rows_count_and_not_where_they_lead(self):
        self.assertEqual(deeds([("0", None)], []), [("drop", "0")])
        self.assertEqual(deeds([("", 1), ("0", 1)], [("", 1)]), [("drop", "0")])

    def test_tables_of_sixty(self):
        rows = table_of_sixty()
        heads = sorted(heads_in(rows))
        self.assertEqual(deeds(rows, []), [("drop", head) for head in heads])
        self.assertEqual(deeds([], rows), [("put", head, dict(rows)[head]) for head in heads])
        self.assertEqual(deeds(rows, rows), [])

    def test_done_one_behind_the_other_they_give_the_other_table(self):
        for ones, others in pairs_of_tables():
            befores = (list(ones), list(others))
            told = deeds(ones, others)
            table = ones
            for deed in told:
                table = done(table, deed)
                self.assertLessEqual(len(table), max(len(ones), len(others)))
            self.assertEqual((ones, others), befores)
            self.assertEqual(sorted(table, key=lambda row: row[0]), sorted(others, key=lambda row: row[0]))
            if told:
                self.assertEqual(table, sorted(others, key=lambda row: row[0]))

    def test_no_more_than_needed_and_in_order(self):
        for ones, others in pairs_of_tables():
            told = deeds(ones, others)
            self.assertIs(type(told), list)
            self.assertTrue(all(type(deed) is tuple for deed in told))
            # Each deed touches one head, so a head whose row is otherwise needs one, and no other head any.
            unlike = {row[0] for row in set(ones) ^ set(others)}
            self.assertEqual(len(told), len(unlike))
            self.assertEqual({deed[1] for deed in told}, unlike)
            drops = [deed for deed in told if deed[0] == "drop"]
            puts = [deed for deed in told if deed[0] == "put"]
            self.assertEqual(told, drops + puts)
            self.assertTrue(stands_by_heads([deed[1:] for deed in drops]))
            self.assertTrue(stands_by_heads([deed[1:] for deed in puts]))
            self.assertTrue(all(len(deed) == 2 and deed[1] in dict(ones) for deed in drops))
            self.assertTrue(all(len(deed) == 3 and (deed[1], deed[2]) in others for deed in puts))

    def test_no_shorter_list_of_deeds_does_it(self):
        tables = [[]]
        for head in all_heads(1):
            tables = tables + [rows + [(head, way)] for rows in tables for way in [None, 1]]
        for ones in tables:
            steps = steps_from(ones)
            for others in tables:
                self.assertEqual(len(deeds(ones, others)), steps[frozenset(others)], (ones, others))


class Done(unittest.TestCase):
    def test_named_deeds(self):
        rows = [("1", 4), ("011", None), ("", 3), ("01", 2)]
        for deed, answer in [
            (("put", "0", 5), [("", 3), ("0", 5), ("01", 2), ("011", None), ("1", 4)]),
            (("put", "00", None), [("", 3), ("00", None), ("01", 2), ("011", None), ("1", 4)]),
            (("put", "1111", 0), [("", 3), ("01", 2), ("011", None), ("1", 4), ("1111", 0)]),
            (("put", "01", 9), [("", 3), ("01", 9), ("011", None), ("1", 4)]),
            (("put", "01", 2), [("", 3), ("01", 2), ("011", None), ("1", 4)]),
            (("put", "01", None), [("", 3), ("01", None), ("011", None), ("1", 4)]),
            (("put", "011", 0), [("", 3), ("01", 2), ("011", 0), ("1", 4)]),
            (("put", "", 1), [("", 1), ("01", 2), ("011", None), ("1", 4)]),
            (("drop", ""), [("01", 2), ("011", None), ("1", 4)]),
            (("drop", "01"), [("", 3), ("011", None), ("1", 4)]),
            (("drop", "011"), [("", 3), ("01", 2), ("1", 4)]),
            (("drop", "1"), [("", 3), ("01", 2), ("011", None)]),
        ]:
            for order in permutations(rows):
                table = list(order)
                told = done(table, deed)
                self.assertEqual(told, answer, deed)
                self.assertTrue(is_table(told))
                self.assertEqual(table, list(order))

    def test_the_empty_table_and_the_last_row(self):
        self.assertEqual(done([], ("put", "", 0)), [("", 0)])
        self.assertEqual(done([], ("put", "01" * 8, None)), [("01" * 8, None)])
        self.assertEqual(done([("0", 1)], ("drop", "0")), [])

    def test_a_deed_that_changes_nothing_still_tells_another_list(self):
        rows = [("", 1)]
        told = done(rows, ("put", "", 1))
        self.assertEqual(told, rows)
        told.append(("0", 2))
        self.assertEqual(rows, [("", 1)])

    def test_a_row_beyond_sixty_is_not_refused(self):
        rows = table_of_sixty()
        told = done(rows, ("put", "0000000000000001", 10000))
        self.assertEqual(len(told), 61)
        self.assertTrue(stands_by_heads(told))
        self.assertEqual(len(rows), 60)


class LaidOver(unittest.TestCase):
    def test_named_tables(self):
        for ones, others, answer in [
            ([], [], []),
            ([("1", 1), ("0", 2)], [], [("0", 2), ("1", 1)]),
            ([], [("1", 1), ("0", 2)], [("0", 2), ("1", 1)]),
            ([("0", 1)], [("0", 2)], [("0", 1)]),
            ([("0", None)], [("0", 2)], [("0", None)]),
            ([("0", 1)], [("01", 2)], [("0", 1)]),
            ([("0", None)], [("01", 2), ("011", 3), ("1", 4)], [("0", None), ("1", 4)]),
            ([("01", 1)], [("0", 2)], [("0", 2), ("01", 1)]),
            ([("01", None)], [("", 2)], [("", 2), ("01", None)]),
            ([("", None)], [("", 1), ("0", 2), ("1111", 3)], [("", None)]),
            ([("", 0)], [("01" * 8, 3)], [("", 0)]),
            ([("01", 1)], [("00", 2), ("010", 3), ("10", 4)], [("00", 2), ("01", 1), ("10", 4)]),
            ([("010", 1)], [("01", 2), ("011", 3), ("0101", 4)], [("01", 2), ("010", 1), ("011", 3)]),
            ([("1", 1)], [("01", None)], [("01", None), ("1", 1)]),
        ]:
            with self.subTest(ones=ones, others=others):
                self.assertEqual(laid_over(ones, others), answer)
                self.assertEqual(laid_over(ones[::-1], others[::-1]), answer)

    def test_rows_and_where_each_address_is_led(self):
        for size in [1, 2, 4, 6]:
            tables = many_tables(size, 40, 10)
            for ones, others in zip(tables, tables[1:]):
                befores = (list(ones), list(others))
                told = laid_over(ones, others)
                self.assertEqual((ones, others), befores)
                self.assertTrue(is_table(told))
                self.assertTrue(stands_by_heads(told))
                heads = set(heads_in(ones))
                kept = [row for row in others if not heads & {row[0][:cut] for cut in range(len(row[0]) + 1)}]
                self.assertEqual(set(told), set(ones) | set(kept))
                for address in texts_of(size):
                    begun = any(address[:len(head)] == head for head in heads)
                    self.assertEqual(slow_way(told, address), slow_way(ones if begun else others, address))

    def test_a_table_over_itself(self):
        rows = table_of_sixty()
        self.assertEqual(laid_over(rows, rows), sorted(rows, key=lambda row: row[0]))

    def test_more_than_sixty_rows_are_not_refused(self):
        ones = [("0" + text, 1) for text in texts_of(5)]
        others = [("1" + text, 2) for text in texts_of(5)]
        self.assertEqual(laid_over(others, ones), ones + others)


if __name__ == "__main__":
    unittest.main()
