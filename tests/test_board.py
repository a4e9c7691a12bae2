import unittest

from headroad import errors
from headroad.board import Board
from samples import all_heads, many_tables, slow_way, stands_by_heads, table_of_sixty, texts_of

REFUSALS = ["BadHead", "BadAddress", "BadSpan", "BadLine", "FullBoard", "NoHead"]


def board_with(rows, size):
    board = Board(size)
    for head, way in rows:
        board.put(head, way)
    return board


def full_board():
    return board_with(table_of_sixty(), 16)


class BoardTest(unittest.TestCase):
    def refused(self, name, board, call, *arguments):
        """The refusal is of this class alone, a RoadError too, and leaves the board as it was."""
        before = (board.size, board.rows())
        with self.assertRaises(errors.RoadError) as taken:
            call(*arguments)
        for other in REFUSALS:
            self.assertEqual(isinstance(taken.exception, getattr(errors, other)), other == name, (name, arguments))
        self.assertEqual((board.size, board.rows()), before)


class Putting(BoardTest):
    def test_an_empty_board(self):
        for size in [1, 4, 16]:
            board = Board(size)
            self.assertEqual(board.size, size)
            self.assertEqual(board.rows(), [])
            for address in ["0" * size, "1" * size]:
                self.assertIsNone(board.led(address))
                self.assertIsNone(board.by_which(address))

    def test_put_tells_whether_the_head_was_there(self):
        board = Board(4)
        self.assertIs(board.put("01", 7), False)
        self.assertIs(board.put("01", 7), True)
        self.assertIs(board.put("01", 8), True)
        self.assertIs(board.put("01", None), True)
        self.assertIs(board.put("01", 0), True)
        self.assertIs(board.put("0", 0), False)
        self.assertIs(board.put("", None), False)
        self.assertIs(board.put("", None), True)
        self.assertEqual(board.rows(), [("", None), ("0", 0), ("01", 0)])

    def test_put_turns_the_way(self):
        board = board_with([("", 1), ("01", 7)], 4)
        board.put("01", 9)
        self.assertEqual(board.rows(), [("", 1), ("01", 9)])
        self.assertEqual(board.led("0111"), 9)
        board.put("01", None)
        self.assertEqual(board.rows(), [("", 1), ("01", None)])
        self.assertIsNone(board.led("0111"))
        self.assertEqual(board.by_which("0111"), "01")

    def test_heads_of_every_length_up_to_the_size(self):
        for size in [1, 2, 16]:
            board = Board(size)
            for length in range(size + 1):
                self.assertIs(board.put("1" * length, length), False)
            self.assertEqual(board.rows(), [("1" * length, length) for length in range(size + 1)])
            self.assertEqual(board.led("1" * size), size)
            self.assertEqual(board.by_which("0" * size), "")

    def test_rows_stand_by_their_heads(self):
        board = board_with([("1", 1), ("011", 2), ("", 3), ("0", 4), ("10", 5), ("01", 6), ("00", None)], 3)
        answer = [("", 3), ("0", 4), ("00", None), ("01", 6), ("011", 2), ("1", 1), ("10", 5)]
        self.assertEqual(board.rows(), answer)
        rows = full_board().rows()
        self.assertEqual(sorted(table_of_sixty(), key=lambda row: row[0]), rows)
        self.assertTrue(stands_by_heads(rows))
        self.assertTrue(all(type(row) is tuple for row in rows))

    def test_bad_heads(self):
        for size, heads in [
            (1, ["00", "11", "2", "a", " ", "0 ", "*", "-"]),
            (4, ["00000", "11111", "012", "2", " 01", "01 ", "0x1", "0_1", "+1", "-1", "1*", "0b1", "01\n", "\n"]),
            (4, ["\u0661", "\u00b9", "\uff10", "l", "O", "0000 ", "2" * 17, "1" * 500]),
            (16, ["0" * 17, "1" * 17, "0" * 15 + "2", "2" + "0" * 15, "0" * 16 + " "]),
        ]:
            board = board_with([("0", 3)], size)
            for head in heads:
                with self.subTest(size=size, head=head):
                    self.refused("BadHead", board, board.put, head, 5)
                    self.refused("BadHead", board, board.drop, head)

    def test_somewhat_beyond_the_bounds(self):
        board = board_with([("1" * 20, 12345)], 20)
        self.assertEqual(board.led("1" * 20), 12345)
        self.assertIsNone(board.by_which("1" * 19 + "0"))


class Full(BoardTest):
    def test_sixty_rows_are_held(self):
        board = Board(16)
        for place, row in enumerate(table_of_sixty()):
            self.assertEqual(len(board.rows()), place)
            self.assertIs(board.put(row[0], row[1]), False)
        self.assertEqual(len(board.rows()), 60)

    def test_one_head_more_is_refused(self):
        board = full_board()
        for head in ["00", "000", "0000000000000001", "1111111111111111"]:
            self.refused("FullBoard", board, board.put, head, 1)
            self.refused("FullBoard", board, board.put, head, None)

    def test_a_head_that_is_there_is_turned_all_the_same(self):
        board = full_board()
        for head, way in table_of_sixty():
            self.assertIs(board.put(head, 4321), True)
        self.assertEqual([row[1] for row in board.rows()], [4321] * 60)
        self.assertIs(board.put("", None), True)
        self.assertEqual(board.rows()[0], ("", None))

    def test_a_bad_head_comes_ahead_of_a_full_board(self):
        board = full_board()
        for head in ["0" * 17, "2", "0a"]:
            self.refused("BadHead", board, board.put, head, 1)

    def test_a_row_dropped_makes_room_for_one(self):
        board = full_board()
        self.assertEqual(board.drop("00001"), 0)
        self.assertIs(board.put("00", 8), False)
        self.refused("FullBoard", board, board.put, "00001", 0)
        self.assertEqual(len(board.rows()), 60)

    def test_a_small_size_with_more_than_sixty_heads(self):
        heads = all_heads(5)
        board = board_with([(head, 1) for head in heads[:60]], 5)
        for head in heads[60:]:
            self.refused("FullBoard", board, board.put, head, 1)
        self.refused("BadHead", board, board.put, "000000", 1)


class Dropping(BoardTest):
    def test_drop_tells_the_way_of_the_row(self):
        board = board_with([("", 1), ("0", None), ("01", 0), ("011", 9999)], 4)
        self.assertEqual(board.drop("01"), 0)
        self.assertEqual(board.rows(), [("", 1), ("0", None), ("011", 9999)])
        self.assertIsNone(board.drop("0"))
        self.assertEqual(board.drop("011"), 9999)
        self.assertEqual(board.drop(""), 1)
        self.assertEqual(board.rows(), [])

    def test_the_way_last_put_is_told(self):
        board = board_with([("01", 1), ("01", 2)], 4)
        self.assertEqual(board.drop("01"), 2)

    def test_a_head_that_is_not_there(self):
        board = board_with([("01", 7), ("0", None)], 4)
        for head in ["", "00", "011", "1", "0101"]:
            self.refused("NoHead", board, board.drop, head)
        board.drop("01")
        self.refused("NoHead", board, board.drop, "01")
        empty = Board(4)
        self.refused("NoHead", empty, empty.drop, "")

    def test_a_head_dropped_and_put_again_is_one_row_more(self):
        board = board_with([("01", 7)], 4)
        board.drop("01")
        self.assertIs(board.put("01", 3), False)
        self.assertEqual(board.rows(), [("01", 3)])


class Leading(BoardTest):
    def test_led_and_by_which(self):
        board = board_with([("", 1), ("0", 2), ("011", None), ("1111", 0)], 4)
        for address, head, way in [
            ("0000", "0", 2), ("0110", "011", None), ("0101", "0", 2), ("1110", "", 1), ("1111", "1111", 0),
        ]:
            self.assertEqual(board.by_which(address), head)
            self.assertEqual(board.led(address), way)
        board.drop("")
        self.assertIsNone(board.by_which("1110"))
        self.assertIsNone(board.led("1110"))

    def test_many_tables(self):
        for size in [1, 3, 5]:
            for rows in many_tables(size, 20):
                board = board_with(rows, size)
                for address in texts_of(size):
                    begun = [head for head, way in rows if address[:len(head)] == head]
                    self.assertEqual(board.by_which(address), max(begun, key=len) if begun else None)
                    self.assertEqual(board.led(address), slow_way(rows, address))

    def test_bad_addresses(self):
        for size, addresses in [
            (1, ["", "00", "2", " ", "*"]),
            (4, ["", "0", "011", "01100", "011 ", " 011", "0112", "01a1", "0\n11", "011\n", "+011", "-011", "0_11"]),
            (4, ["\u0661" * 4, "01 ", "1" * 500]),
            (16, ["0" * 15, "0" * 17, "0" * 15 + "2", ""]),
        ]:
            for board in [Board(size), board_with([("", 1), ("0", 2)], size)]:
                for address in addresses:
                    with self.subTest(size=size, address=address):
                        self.refused("BadAddress", board, board.led, address)
                        self.refused("BadAddress", board, board.by_which, address)


class Apart(BoardTest):
    def test_rows_that_were_told_are_the_callers_own(self):
        board = board_with([("", 1), ("01", 7)], 4)
        told = board.rows()
        told.append(("1", 2))
        told[0] = ("0", 3)
        self.assertEqual(board.rows(), [("", 1), ("01", 7)])
        self.assertEqual(board.led("1111"), 1)
        kept = board.rows()
        board.put("1", 5)
        board.put("", 6)
        board.drop("01")
        self.assertEqual(kept, [("", 1), ("01", 7)])

    def test_two_boards_do_not_know_of_one_another(self):
        one = Board(4)
        other = Board(4)
        wider = Board(16)
        one.put("01", 7)
        self.assertEqual(other.rows(), [])
        self.assertIs(other.put("01", 8), False)
        wider.put("0" * 16, 9)
        self.assertEqual(one.rows(), [("01", 7)])
        self.assertEqual((one.size, other.size, wider.size), (4, 4, 16))
        one.drop("01")
        self.assertEqual(other.rows(), [("01", 8)])
        self.assertEqual(Board(4).rows(), [])

    def test_asking_changes_nothing(self):
        board = board_with([("1", 1), ("", None)], 2)
        for _ in range(2):
            self.assertEqual((board.led("10"), board.by_which("01")), (1, ""))
            self.assertEqual(board.rows(), [("", None), ("1", 1)])


if __name__ == "__main__":
    unittest.main()
