import unittest

from headroad.heads import heads_of
from headroad.thin import thinned
from headroad.turn import deeds, done, laid_over
from headroad.ways import head_for, parting, spans, way_for
from samples import many_tables, table_of_sixty

# In no order, so that a table sorted in place would show.
ROWS = [("1", 3), ("", 1), ("011", None), ("01", 7)]
OTHERS = [("11", 2), ("0", 1)]


class HandedIn(unittest.TestCase):
    def check_kept(self, call, *tables):
        befores = [list(table) for table in tables]
        first = call(*tables)
        for table, before in zip(tables, befores):
            self.assertEqual(table, before)
        self.assertEqual(call(*tables), first)

    def test_tables_are_as_they_were(self):
        for rows in [ROWS, OTHERS, [], *many_tables(4, 10)]:
            self.check_kept(lambda table: head_for(table, "0110"), list(rows))
            self.check_kept(lambda table: way_for(table, "0110"), list(rows))
            self.check_kept(lambda table: spans(table, 4), list(rows))
            self.check_kept(lambda ones, others: parting(ones, others, 4), list(rows), list(OTHERS))
            self.check_kept(lambda ones, others: parting(ones, others, 4), list(OTHERS), list(rows))
            self.check_kept(thinned, list(rows))
            self.check_kept(lambda table: done(table, ("put", "01", 4321)), list(rows))
            self.check_kept(lambda table: done(table, ("put", "0101010", 4321)), list(rows))
            for head, way in rows:
                self.check_kept(lambda table: done(table, ("drop", head)), list(rows))
            for call in [deeds, laid_over]:
                self.check_kept(call, list(rows), list(OTHERS))
                self.check_kept(call, list(OTHERS), list(rows))
        self.check_kept(lambda table: spans(table, 16), table_of_sixty())
        self.check_kept(thinned, table_of_sixty())

    def test_one_table_handed_in_twice(self):
        rows = list(ROWS)
        self.assertIsNone(parting(rows, rows, 4))
        self.assertEqual(deeds(rows, rows), [])
        self.assertEqual(laid_over(rows, rows), sorted(ROWS, key=lambda row: row[0]))
        self.assertEqual(rows, ROWS)


class Told(unittest.TestCase):
    def check_own(self, call):
        first = call()
        kept = list(first)
        first.append("more")
        first[0] = "other"
        self.assertEqual(call(), kept)
        first.clear()
        self.assertEqual(call(), kept)
        self.assertIsNot(call(), call())

    def test_a_list_that_was_told_is_the_callers_own(self):
        rows = list(ROWS)
        self.check_own(lambda: spans(rows, 4))
        self.check_own(lambda: spans([], 4))
        self.check_own(lambda: heads_of(3, 8, 4))
        self.check_own(lambda: heads_of(0, 15, 4))
        self.check_own(lambda: thinned(rows))
        self.check_own(lambda: deeds(rows, OTHERS))
        self.check_own(lambda: done(rows, ("put", "1", 3)))
        self.check_own(lambda: done(rows, ("drop", "1")))
        self.check_own(lambda: laid_over(rows, OTHERS))
        self.check_own(lambda: laid_over(rows, []))
        self.check_own(lambda: laid_over([], rows))
        self.assertEqual(rows, ROWS)

    def test_an_answer_that_equals_what_was_handed_in_is_another_list(self):
        rows = [("", 1), ("01", 7)]
        for told in [thinned(rows), laid_over(rows, []), laid_over([], rows), laid_over(rows, rows)]:
            self.assertEqual(told, rows)
            told.clear()
        self.assertEqual(rows, [("", 1), ("01", 7)])
        empty = []
        for told in [thinned(empty), deeds(empty, empty), laid_over(empty, empty)]:
            told.append("more")
        self.assertEqual(empty, [])

    def test_a_table_changed_between_two_calls_is_read_anew(self):
        rows = [("", 1)]
        self.assertEqual(spans(rows, 2), [(0, 3, 1)])
        rows.append(("1", 2))
        self.assertEqual(spans(rows, 2), [(0, 1, 1), (2, 3, 2)])
        self.assertEqual(way_for(rows, "10"), 2)
        self.assertEqual(parting(rows, [("", 1)], 2), "10")


if __name__ == "__main__":
    unittest.main()
